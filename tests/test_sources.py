"""Promises 5 and 6: sources and piece."""

import unittest

from calling import FAR, OUTPUT, SOURCES, ask, last, out, piece, program, record


class Sources(unittest.TestCase):
    def test_the_empty_output(self):
        self.assertEqual(ask(SOURCES, program("0"), SOURCES), [[0], [0], [0]])

    def test_constants_come_from_nowhere(self):
        self.assertEqual(last(program('"ab"&"c"'), SOURCES), [0] + [0, 0] * 3)

    def test_parts_come_from_a_field_and_a_place(self):
        begin = (record("abcd", "xyz"),)
        self.assertEqual(last(*begin, program("1[+0:-0]"), SOURCES), [0, 1, 0, 1, 1, 1, 2, 1, 3])
        self.assertEqual(last(*begin, program("2[-2:-0]^"), SOURCES), [0, 2, 1, 2, 2])
        self.assertEqual(last(*begin, program("2[+1:-0]&1[+0:+1]~&\"-\"&2[+2:+3]"), SOURCES),
                         [0, 2, 1, 2, 2, 1, 0, 0, 0, 2, 2])

    def test_the_place_is_where_the_first_position_stands(self):
        begin = (record("Ada Love 12"),)
        self.assertEqual(last(*begin, program("1[B|D+1:-0]"), SOURCES), [0, 1, 9, 1, 10])
        self.assertEqual(last(*begin, program("1[.|B-1:.|D+1]"), SOURCES), [0, 1, 8])

    def test_a_byte_shown_twice_has_one_source(self):
        self.assertEqual(last(record("a"), program("1[+0:-0]&1[+0:-0]^"), SOURCES), [0, 1, 0, 1, 0])

    def test_the_longest_output(self):
        told = last(record("x" * 40), program("&".join(["1[+0:-0]"] * 6)), SOURCES)
        self.assertEqual(told, [0] + [n for _ in range(6) for k in range(40) for n in (1, k)])

    def test_leaves_the_object_as_it_was(self):
        told = ask(record("ab"), program("1[+0:-0]"), SOURCES, SOURCES, OUTPUT)
        self.assertEqual(told[2:], [[0, 1, 0, 1, 1], [0, 1, 0, 1, 1], out("ab")])


class Piece(unittest.TestCase):
    begin = (record("abcd"), program('1[+0:+3]&"--"&1[-1:-0]'))

    def test_each_byte(self):
        told = ask(*self.begin, *[piece(i) for i in range(6)])
        self.assertEqual(told[2:], [[0, 0, 0], [0, 0, 1], [0, 0, 2], [0, 1, 0], [0, 1, 1], [0, 2, 0]])

    def test_no_such_byte(self):
        for i in (-1, -2, 6, 7, FAR, -FAR):
            self.assertEqual(last(*self.begin, piece(i)), [-2])

    def test_the_empty_output_has_no_byte(self):
        for i in (0, 1, -1, FAR, -FAR):
            self.assertEqual(ask(piece(i)), [[-2]])

    def test_the_last_byte_of_the_longest_output(self):
        begin = (record("x" * 40), program("&".join(["1[+0:-0]"] * 6)))
        self.assertEqual(last(*begin, piece(239)), [0, 5, 39])
        self.assertEqual(last(*begin, piece(240)), [-2])

    def test_leaves_the_object_as_it_was(self):
        self.assertEqual(last(*self.begin, piece(4), piece(6), OUTPUT), out("abc--d"))


if __name__ == "__main__":
    unittest.main()
