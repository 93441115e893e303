"""Many made-up programs and records, against a second reading of the document by regular expressions."""

import random
import unittest

from calling import OUTPUT, SOURCES, ask, last, out, piece, program, record, text
from modelling import PROGRAM, made_program, made_record, model, spoiled


class Model(unittest.TestCase):
    def test_outputs_sources_and_pieces(self):
        chance = random.Random(1)
        outputs = 0
        for _ in range(4000):
            written = made_program(chance)
            fields = made_record(chance)
            begin = (program(written), record(*fields))
            expected = model(written, fields)
            if isinstance(expected, int):
                self.assertEqual(ask(*begin, OUTPUT, SOURCES, piece(0)), [[0], [0]] + [[1, expected]] * 3,
                                 (written, fields))
                continue
            outputs += 1
            probes = sorted(chance.randrange(len(expected)) for _ in range(5))
            told = ask(*begin, OUTPUT, SOURCES, *[piece(i) for i in probes])
            self.assertEqual(told, [
                [0],
                [0],
                out("".join(byte[0] for byte in expected)),
                [0] + [n for byte in expected for n in byte[3:]],
            ] + [[0] + list(expected[i][1:3]) for i in probes], (written, fields))
        self.assertGreater(outputs, 500)

    def test_which_texts_are_program_texts(self):
        chance = random.Random(2)
        taken = 0
        for _ in range(6000):
            written = spoiled(chance, made_program(chance))
            told = last(program(written))
            self.assertEqual(told == [0], PROGRAM.fullmatch(written) is not None, (written, told))
            taken += told == [0]
            if told != [0]:
                self.assertIn(told[0], (1, 2, 3, 4, 5), written)
                self.assertEqual(len(told), 2, written)
        self.assertGreater(taken, 300)

    def test_up_to_a_misplaced_byte_the_text_has_no_other_fault(self):
        chance = random.Random(3)
        for _ in range(3000):
            written = spoiled(chance, made_program(chance))
            told = last(program(written))
            if told[0] != 1:
                continue
            ahead = last(program(written[:told[1]]))
            self.assertIn(ahead, ([0], told), written)

    def test_a_fault_stays_whatever_follows_its_telling(self):
        chance = random.Random(4)
        for _ in range(3000):
            written = spoiled(chance, made_program(chance))
            told = last(program(written))
            if told == [0] or told[1] == len(text(written)):
                continue
            self.assertEqual(last(program(written + "&\x00")), told, written)


if __name__ == "__main__":
    unittest.main()
