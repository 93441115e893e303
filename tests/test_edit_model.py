"""Many made-up lines of all calls, against a second reading of the document."""

import random
import unittest

from calling import (FIELDS, OUTPUT, UNDO, ask, could, edit, free, out, program, record, spread, told_fields, whole)
from modelling import (is_refused, joined, made_piece, made_program, made_record, model, model_edit, model_free,
                       model_spread, model_whole)


def made_text(chance, near):
    """A text that has much in common with another one, or little."""
    way = chance.random()
    if way < 0.2:
        return ""
    if way < 0.6:
        made = "".join(chance.choice([c, c, c, c.swapcase(), "", c + c, c + chance.choice("aZ1 -")]) for c in near)
        return made or chance.choice("aZ1 -")
    if way < 0.95:
        return "".join(chance.choice("abYZ19 -,'|") for _ in range(chance.choice([1, 1, 2, 3])))
    return chance.choice(["\x1f", "a\x7f", "x" * 241, "y" * 240, "~ "])


def made_places(chance, shown):
    """Where an edit begins and ends: mostly within one piece's text."""
    length = len(shown)
    if length > 0 and chance.random() < 0.7:
        number = chance.choice(shown)[1]
        places = [k for k, byte in enumerate(shown) if byte[1] == number]
        return tuple(sorted(chance.choice(places + [places[-1] + 1]) for _ in range(2)))
    i = chance.choice([0, length, chance.randint(0, length), chance.randint(-1, length + 1)])
    j = i + chance.choice([0, 0, 1, 1, 1, 2, 3, chance.randint(-1, length + 1)])
    return i, j


class ModelDesk:
    """The object, by the second reading."""

    def __init__(self, written, fields):
        self.written = written
        self.fields = fields
        self.past = []

    def led(self, led):
        if is_refused(led):
            return led
        self.past = (self.past + [self.fields])[-50:]
        self.fields = led
        return [0]

    def could(self, *change):
        led = model_edit(self.written, self.fields, *change)
        return led if is_refused(led) else [0] + told_fields(*led)

    def undo(self):
        if not self.past:
            return [-7]
        self.fields = self.past.pop()
        return [len(self.past)]

    def call(self, chance):
        """A made-up call, and what it answers."""
        shown = model(self.written, self.fields)
        shown = [] if isinstance(shown, int) else shown
        output = joined(shown)
        kind = chance.choice(["could", "edit", "edit", "whole", "spread", "undo"])
        i, j = made_places(chance, shown)
        u = made_text(chance, output[max(i, 0):max(j, 0)])
        if kind == "could":
            return could(i, j, u), self.could(i, j, u)
        if kind == "edit":
            return edit(i, j, u), self.led(model_edit(self.written, self.fields, i, j, u))
        if kind == "whole":
            o = output[:max(i, 0)] + u + output[max(j, 0):]
            return whole(o), self.led(model_whole(self.written, self.fields, o))
        if kind == "spread":
            field = chance.choice([1, 1, 2, 0, 4, 5])
            return spread(field, i), model_spread(self.written, self.fields, field, i)
        return UNDO, self.undo()

    def output(self):
        shown = model(self.written, self.fields)
        return [1, shown] if isinstance(shown, int) else out(joined(shown))


def made_desk(chance):
    """A program and a record, mostly such that the output shows something of the record."""
    for _ in range(50):
        written = chance.choice([made_program(chance), made_piece(chance), "&".join([made_piece(chance)] * 2)])
        fields = made_record(chance)
        shown = model(written, fields)
        if not isinstance(shown, int) and any(byte[3] > 0 for byte in shown):
            break
    return ModelDesk(written, fields)


class Model(unittest.TestCase):
    def test_lines(self):
        chance = random.Random(5)
        answered = {}
        for _ in range(500):
            desk = made_desk(chance)
            calls = [program(desk.written), record(*desk.fields)]
            expected = [[0], [0]]
            begin = (desk.written, desk.fields)
            for _ in range(20):
                call, answer = desk.call(chance)
                calls += [call, FIELDS, OUTPUT]
                expected += [answer, told_fields(*desk.fields), desk.output()]
                key = (call[0], answer[0])
                answered[key] = answered.get(key, 0) + 1
            self.assertEqual(ask(*calls), expected, (begin, calls))
        for kind in (7, 8, 9):
            for first in (0, -1, -3, -9):
                self.assertGreater(answered.get((kind, first), 0), 20, (kind, first))

    def test_free(self):
        chance = random.Random(6)
        for _ in range(60):
            desk = made_desk(chance)
            shown = model(desk.written, desk.fields)
            length = 0 if isinstance(shown, int) else len(shown)
            places = [-1, length] + [chance.randrange(length) for _ in range(3) if length > 0]
            told = ask(program(desk.written), record(*desk.fields), *[free(i) for i in places])
            self.assertEqual(told[2:], [model_free(desk.written, desk.fields, i) for i in places],
                             (desk.written, desk.fields, places))


if __name__ == "__main__":
    unittest.main()
