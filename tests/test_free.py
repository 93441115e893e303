"""Promise 11: free."""

import unittest

from calling import FAR, FIELDS, OUTPUT, UNDO, ask, could, edit, free, last, out, program, record, text, told_fields

ALL = "1[+0:-0]"
BYTES = [c for c in range(32, 127)]
NO_SMALL = [c for c in BYTES if not 97 <= c <= 122]
NO_CAPITALS = [c for c in BYTES if not 65 <= c <= 90]


class Free(unittest.TestCase):
    def frees(self, fields, written, i, expected):
        fields = [fields] if isinstance(fields, str) else fields
        with self.subTest(fields=fields, written=written, i=i):
            self.assertEqual(last(record(*fields), program(written), free(i)), [0] + text(expected))

    def test_a_part_without_a_sign(self):
        for i in range(4):
            self.frees("aB1 ", ALL, i, BYTES)
        self.frees("aB1 ", "1[+1:-1]", 0, BYTES)
        self.frees(["", "ab"], '"<"&2[+0:-0]', 2, BYTES)

    def test_capitals(self):
        for i in range(4):
            self.frees("aB1 ", ALL + "^", i, NO_SMALL)

    def test_small_letters(self):
        for i in range(4):
            self.frees("aB1 ", ALL + "_", i, NO_CAPITALS)

    def test_a_capital_ahead_of_small_letters(self):
        self.frees("aB1 ", ALL + "~", 0, NO_SMALL)
        for i in (1, 2, 3):
            self.frees("aB1 ", ALL + "~", i, NO_CAPITALS)

    def test_a_full_field(self):
        self.frees("x" * 40, ALL, 39, BYTES)

    def test_constants(self):
        show = '"ab"&1[+0:-0]&"c"'
        for i in (0, 1, 4):
            self.frees("xy", show, i, [])
        self.frees("xy", show, 2, BYTES)
        self.frees("xy", show, 3, BYTES)
        self.frees("", '"a"', 0, [])

    def test_borders_that_a_byte_would_move(self):
        for field in ("a7b", "7", "a123b", "123"):
            for i in range(len(field.strip("ab"))):
                self.frees(field, "1[.|D+1:D|.+1]", i, "0123456789")
        self.frees("Ada Love", "1[B|.+1:-0]^", 0, [c for c in NO_SMALL if c != 32])
        self.frees("Ada Love", "1[B|.+1:-0]^", 1, NO_SMALL)
        self.frees("Ada Love", "1[B|.-1:-0]^", 1, [c for c in NO_SMALL if c != 32])
        self.frees("a-b", "1['-|.+1:-0]", 0, [c for c in BYTES if c != 45])

    def test_a_byte_that_two_parts_show(self):
        self.frees("ab", ALL + "&1[+0:+1]", 0, "a")
        self.frees("ab", ALL + "&1[+0:+1]", 1, BYTES)
        self.frees("ab", ALL + "&1[+0:+1]", 2, "a")
        # In the output the letter is a capital, in the field it may be either.
        self.frees("a", ALL + "^&" + ALL + "^", 0, "A")
        self.frees("a", ALL + "^&" + ALL, 0, "A")

    def test_no_such_byte(self):
        for i in (-1, -2, 4, 5, FAR, -FAR):
            self.assertEqual(last(record("ab"), program('"<"&1[+0:-0]&">"'), free(i)), [-2])
        for i in (0, 1, -1, FAR, -FAR):
            self.assertEqual(ask(free(i)), [[-2]])
            self.assertEqual(last(record("ab"), free(i)), [-2])

    def test_as_could_tells(self):
        fields = ["aB 9-", "x Y"]
        show = '1[.|N-1:-0]&2[B|.+1:-0]~&"."&1[+0:+2]_&2[+0:+1]'
        length = len(last(record(*fields), program(show), OUTPUT)) - 1
        self.assertEqual(length, 7)
        for i in range(length):
            told = ask(record(*fields), program(show), free(i), *[could(i, i + 1, [c]) for c in BYTES])
            taken = [c for c, answer in zip(BYTES, told[3:]) if answer[0] == 0]
            self.assertEqual(told[2], [0] + taken)

    def test_leaves_the_object_as_it_was(self):
        told = ask(record("ab"), program(ALL), edit(0, 1, "x"), free(0), free(2), OUTPUT, FIELDS, UNDO, FIELDS, UNDO)
        self.assertEqual(told[3:], [[0] + BYTES, [-2], out("xb"), told_fields("xb"), [0], told_fields("ab"), [-7]])

    def test_many_times(self):
        told = ask(record("-a" * 20), program("&".join(["1[.|N-20:N|.-1]^"] * 6)), *[free(5)] * 20)
        self.assertEqual(told[2:], [[0, 45]] * 20)


if __name__ == "__main__":
    unittest.main()
