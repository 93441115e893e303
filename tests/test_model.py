"""Many made-up programs and records, against a second reading of the document by regular expressions."""

import random
import re
import unittest

from calling import OUTPUT, SOURCES, ask, last, out, piece, program, record, text

CLASS_SETS = {"D": "[0-9]", "L": "[a-z]", "U": "[A-Z]", "A": "[A-Za-z]", "N": "[0-9A-Za-z]", "B": "[ ]"}
CLASS = r"(?:[DLUANB.]|'[!-/:-@\[-`{-~])"
FAR_NUMBER = r"(?:[0-9]|[1-5][0-9]|60)"
BORDER_NUMBER = r"(?:[1-9]|[1-3][0-9]|40)"
BORDER = r"(?!\.\|\.)(?:%s)\|(?:%s)[+-]%s" % (CLASS, CLASS, BORDER_NUMBER)
POSITION = r"(?:[+-]%s|%s)" % (FAR_NUMBER, BORDER)
PART = r"([1-4])\[(%s):(%s)\]([\^_~]?)" % (POSITION, POSITION)
CONSTANT = r'"((?:[ !#-~]|""){1,12})"'
PIECE = re.compile("%s|%s" % (PART, CONSTANT))
PROGRAM = re.compile("0|(?:{0})(?:&(?:{0})){{0,5}}".format("%s|%s" % (PART, CONSTANT)))
BORDER_PARTS = re.compile(r"(%s)\|(%s)([+-])([0-9]+)" % (CLASS, CLASS))


def class_set(sign):
    return CLASS_SETS.get(sign) or re.escape(sign[1])


def place_in(position, field):
    found = BORDER_PARTS.fullmatch(position)
    if found is None:
        k = int(position[1:])
        if k > len(field):
            return None
        return k if position[0] == "+" else len(field) - k
    left, right, way, count = found.groups()
    ending = "" if left == "." else "(?<=%s)(?!%s)" % (class_set(left), class_set(left))
    beginning = "" if right == "." else "(?<!%s)(?=%s)" % (class_set(right), class_set(right))
    places = [met.start() for met in re.finditer(ending + beginning, field)]
    if way == "-":
        places.reverse()
    return places[int(count) - 1] if int(count) <= len(places) else None


def pieces_of(written):
    """For each piece of a program text: (field, position, position, turn, constant)."""
    found = []
    place = 0
    while place < len(written) and written != "0":
        met = PIECE.match(written, place)
        found.append(met.groups())
        place = met.end() + 1
    return found


def model(written, fields):
    """The output's bytes with their piece and source, or the first piece that gives nothing."""
    shown = []
    for number, (field, first, second, turn, constant) in enumerate(pieces_of(written)):
        if constant is not None:
            given = constant.replace('""', '"')
            shown += [(c, number, k, 0, 0) for k, c in enumerate(given)]
            continue
        if int(field) > len(fields):
            return number
        source = fields[int(field) - 1]
        a = place_in(first, source)
        b = place_in(second, source)
        if a is None or b is None or a >= b:
            return number
        turns = {"": str, "^": str.upper, "_": str.lower, "~": str.capitalize}
        given = turns[turn](source[a:b])
        shown += [(c, number, k, int(field), a + k) for k, c in enumerate(given)]
    return shown


def made_class(chance):
    return chance.choice(["D", "L", "U", "A", "N", "B", ".", ".", "'-", "',", "''", "'|"])


def made_position(chance):
    way = chance.choice("+-")
    if chance.random() < 0.4:
        return way + str(chance.choice([0, 0, 1, 2, 3, 5, 9, 40, 60]))
    left, right = made_class(chance), made_class(chance)
    if left == right == ".":
        right = "L"
    return "%s|%s%s%d" % (left, right, way, chance.choice([1, 1, 1, 2, 3, 40]))


def made_piece(chance):
    if chance.random() < 0.25:
        return '"%s"' % "".join(chance.choice(["a", " ", '""', "-", "Z", "0"]) for _ in range(chance.randint(1, 12)))
    return "%d[%s:%s]%s" % (chance.choice([1, 1, 1, 2, 3, 4]), made_position(chance), made_position(chance),
                            chance.choice(["", "", "^", "_", "~"]))


def made_program(chance):
    return "&".join(made_piece(chance) for _ in range(chance.choice([1, 1, 1, 2, 2, 3, 6])))


def made_record(chance):
    return ["".join(chance.choice("abYZ19  -,'|") for _ in range(chance.choice([0, 3, 8, 20, 40])))
            for _ in range(chance.randint(1, 4))]


def spoiled(chance, written):
    """The program text with a byte put in, taken out or replaced, or cut short."""
    place = chance.randrange(len(written) + 1)
    byte = chance.choice("01456[]:+-|&\"^_~DLUANB.' ax\x1f\x7f\xff")
    return chance.choice([
        written[:place] + byte + written[place:],
        written[:place] + written[place + 1:],
        written[:place] + byte + written[place + 1:],
        written[:place],
        written + "&" + written,
    ])


class Model(unittest.TestCase):
    def test_outputs_sources_and_pieces(self):
        chance = random.Random(1)
        outputs = 0
        for _ in range(4000):
            written = made_program(chance)
            fields = made_record(chance)
            begin = (program(written), record(*fields))
            expected = model(written, fields)
            if isinstance(expected, int):
                self.assertEqual(ask(*begin, OUTPUT, SOURCES, piece(0)), [[0], [0]] + [[1, expected]] * 3,
                                 (written, fields))
                continue
            outputs += 1
            probes = sorted(chance.randrange(len(expected)) for _ in range(5))
            told = ask(*begin, OUTPUT, SOURCES, *[piece(i) for i in probes])
            self.assertEqual(told, [
                [0],
                [0],
                out("".join(byte[0] for byte in expected)),
                [0] + [n for byte in expected for n in byte[3:]],
            ] + [[0] + list(expected[i][1:3]) for i in probes], (written, fields))
        self.assertGreater(outputs, 500)

    def test_which_texts_are_program_texts(self):
        chance = random.Random(2)
        taken = 0
        for _ in range(6000):
            written = spoiled(chance, made_program(chance))
            told = last(program(written))
            self.assertEqual(told == [0], PROGRAM.fullmatch(written) is not None, (written, told))
            taken += told == [0]
            if told != [0]:
                self.assertIn(told[0], (1, 2, 3, 4, 5), written)
                self.assertEqual(len(told), 2, written)
        self.assertGreater(taken, 300)

    def test_up_to_a_misplaced_byte_the_text_has_no_other_fault(self):
        chance = random.Random(3)
        for _ in range(3000):
            written = spoiled(chance, made_program(chance))
            told = last(program(written))
            if told[0] != 1:
                continue
            ahead = last(program(written[:told[1]]))
            self.assertIn(ahead, ([0], told), written)

    def test_a_fault_stays_whatever_follows_its_telling(self):
        chance = random.Random(4)
        for _ in range(3000):
            written = spoiled(chance, made_program(chance))
            told = last(program(written))
            if told == [0] or told[1] == len(text(written)):
                continue
            self.assertEqual(last(program(written + "&\x00")), told, written)


if __name__ == "__main__":
    unittest.main()
