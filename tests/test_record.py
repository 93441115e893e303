"""Promises 2 and 4: record and fields."""

import unittest

from calling import FIELDS, OUTPUT, ask, last, out, program, record, told_fields


class Record(unittest.TestCase):
    def taken(self, *fields):
        self.assertEqual(ask(record(*fields), FIELDS), [[0], told_fields(*fields)])

    def refused(self, *fields):
        told = ask(program("1[+0:-0]"), record("old", "one"), record(*fields), FIELDS, OUTPUT)
        self.assertEqual(told[2:], [[-1], told_fields("old", "one"), out("old")])

    def test_at_the_beginning_one_empty_field(self):
        self.assertEqual(ask(FIELDS), [[1, 0]])

    def test_how_many_fields(self):
        self.taken("a")
        self.taken("a", "bc")
        self.taken("a", "bc", "d")
        self.taken("a", "bc", "d", "e f")
        self.refused()
        self.refused("a", "b", "c", "d", "e")
        self.refused(*["a"] * 400)
        self.refused(*[""] * 16900)

    def test_length_of_fields(self):
        self.taken("")
        self.taken("", "", "", "")
        self.taken("x" * 40)
        self.taken("x" * 39, "", "y" * 40, "z")
        self.refused("x" * 41)
        self.refused("x", "", "y", "z" * 41)
        self.refused("x" * 10000)

    def test_bytes_of_fields(self):
        self.taken(" ")
        self.taken("~")
        self.taken([32, 126, 34, 39, 48])
        for byte in (0, 10, 31, 127, 128, 255):
            self.refused([byte])
            self.refused("fine", [65, byte])
            self.refused([byte, 65], "fine")

    def test_the_answer_is_exact(self):
        self.assertEqual(ask(record("Ada", "", "~"), FIELDS), [[0], [3, 3, 65, 100, 97, 0, 1, 126]])

    def test_keeps_the_program(self):
        told = ask(program("1[+0:-0]"), record("ab"), OUTPUT, record("c"), OUTPUT)
        self.assertEqual(told[2::2], [out("ab"), out("c")])

    def test_last_record_counts(self):
        self.assertEqual(last(record("a", "b"), record("c"), FIELDS), told_fields("c"))


if __name__ == "__main__":
    unittest.main()
