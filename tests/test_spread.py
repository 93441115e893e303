"""Promise 7: spread."""

import unittest

from calling import FAR, FIELDS, OUTPUT, SOURCES, UNDO, ask, last, out, program, record, spread, told_fields


class Spread(unittest.TestCase):
    begin = (record("abcd", "xy", ""), program('1[+0:+3]&"-"&2[-1:-0]^&1[+1:-0]_&1[+2:+3]&"x"'))

    def test_each_byte(self):
        # The output is abc-Ybcdcx.
        told = ask(*self.begin, OUTPUT, *[spread(1, i) for i in range(4)], spread(2, 0), spread(2, 1))
        self.assertEqual(told[2:], [out("abc-Ybcdcx"), [0, 0], [0, 1, 5], [0, 2, 6, 8], [0, 7], [0], [0, 4]])

    def test_fields(self):
        begin = (record("a", "a", "a", "a"), program('4[+0:-0]&3[+0:-0]&"a"&2[+0:-0]&1[+0:-0]&4[+0:-0]'))
        told = ask(*begin, *[spread(field, 0) for field in (1, 2, 3, 4)])
        self.assertEqual(told[2:], [[0, 4], [0, 3], [0, 1], [0, 0, 5]])

    def test_no_such_field(self):
        for field in (0, -1, 4, 5, FAR, -FAR):
            for i in (0, 1, -1, 39, 40, FAR, -FAR):
                self.assertEqual(last(*self.begin, spread(field, i)), [-6])

    def test_the_last_field(self):
        for count in range(1, 5):
            begin = (record(*["ab"] * count), program("1[+0:-0]"))
            self.assertEqual(last(*begin, spread(count, 1)), [0, 1] if count == 1 else [0])
            self.assertEqual(last(*begin, spread(count + 1, 1)), [-6])

    def test_no_such_byte(self):
        for i in (-1, -2, 4, 5, FAR, -FAR):
            self.assertEqual(last(*self.begin, spread(1, i)), [-2])
        for i in (-1, 2, 3):
            self.assertEqual(last(*self.begin, spread(2, i)), [-2])
        self.assertEqual(last(*self.begin, spread(2, -1)), [-2])

    def test_a_field_with_no_bytes(self):
        for i in (0, 1, -1, FAR, -FAR):
            self.assertEqual(last(*self.begin, spread(3, i)), [-2])
            self.assertEqual(ask(spread(1, i)), [[-2]])

    def test_programs_that_show_nothing_of_the_record(self):
        for written in ("0", '"ab"'):
            begin = (record("ab"), program(written))
            self.assertEqual(ask(*begin, spread(1, 0), spread(1, 1), spread(1, 2), spread(2, 0))[2:],
                             [[0], [0], [-2], [-6]])

    def test_the_longest_output(self):
        begin = (record("x" * 40), program("&".join(["1[+0:-0]"] * 6)))
        self.assertEqual(last(*begin, spread(1, 39)), [0, 39, 79, 119, 159, 199, 239])

    def test_leaves_the_object_as_it_was(self):
        told = ask(*self.begin, spread(1, 2), spread(1, 4), spread(4, 0), OUTPUT, FIELDS, UNDO)
        self.assertEqual(told[5:], [out("abc-Ybcdcx"), told_fields("abcd", "xy", ""), [-7]])

    def test_as_sources_tells(self):
        told = ask(*self.begin, SOURCES, *[spread(1, i) for i in range(4)])
        pairs = list(zip(told[2][1::2], told[2][2::2]))
        for i in range(4):
            self.assertEqual(told[3 + i], [0] + [k for k, pair in enumerate(pairs) if pair == (1, i)])


if __name__ == "__main__":
    unittest.main()
