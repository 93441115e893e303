"""Promise 10: whole."""

import unittest

from calling import FIELDS, OUTPUT, UNDO, ask, edit, out, program, record, told_fields, whole
from editing import EditCase

ALL = "1[+0:-0]"
WRONG_TEXTS = ([31], [127], [0], [255], "ab\x1f", "\x7fab", "x" * 241, " " * 10000)


class Whole(EditCase):
    def made(self, fields, written, o, expected):
        """The output o is led back into the expected fields."""
        fields = [fields] if isinstance(fields, str) else fields
        expected = [expected] if isinstance(expected, str) else expected
        self.leads(whole(o), fields, written, expected, o)

    def refused(self, fields, written, o, refusal):
        fields = [fields] if isinstance(fields, str) else fields
        self.leaves(whole(o), fields, written, [refusal])

    def test_bytes_are_replaced_put_in_and_taken_out(self):
        self.made("abcd", ALL, "axyd", "axyd")
        self.made("abcd", ALL, "axyzd", "axyzd")
        self.made("abcd", ALL, "ad", "ad")
        self.made("abcd", ALL, "wxyz", "wxyz")
        self.made("abcd", ALL, "xabcd", "xabcd")
        self.made("abcd", ALL, "abcdx", "abcdx")

    def test_the_edit_is_found_among_the_pieces(self):
        show = '1[B|.+1:-0]^&", "&1[+0:+1]'
        self.made("Ada Love", show, "LIVE, A", "Ada LIve")
        self.made("Ada Love", show, "LOVE, B", "Bda Love")
        self.made("Ada Love", show, "LOVELACE, A", "Ada LoveLACE")
        self.made("Ada Love", show, "LO, A", "Ada Lo")
        self.made("Ada Love", show, "X, A", "Ada X")
        self.refused("Ada Love", show, "LOVE; A", -3)
        self.refused("Ada Love", show, "LOVE,  A", -9)
        self.refused("Ada Love", show, "LOVE A", -3)
        self.refused("Ada Love", show, "LIVE, B", -3)
        self.refused("Ada Love", show, "LoVE, A", -9)
        self.refused("Ada Love", show, "LOVE, AB", -9)
        self.refused("Ada Love", show, "LOVE, ", -9)

    def test_just_the_output(self):
        self.made("aBcd", ALL, "aBcd", "aBcd")
        self.made("aBcd", ALL + "^", "ABCD", "aBcd")
        self.made("ab", '"<"&1[+0:-0]', "<ab", "ab")
        self.refused("ab", '1[+0:-0]&">"', "ab>", -3)
        self.refused("ab", '">"', ">", -3)
        self.refused("ab", "0", "", -3)

    def test_texts(self):
        for o in WRONG_TEXTS:
            self.refused("ab", ALL, o, -1)
            self.refused("ab", "0", o, -1)
            self.refused("ab", '"ab"', o, -1)

    def test_texts_are_told_ahead_of_the_lack_of_an_output(self):
        for o in WRONG_TEXTS:
            self.assertEqual(ask(program('"a"&1[+0:-0]'), whole(o), UNDO, FIELDS),
                             [[0], [-1], [-7], told_fields("")])
        for o in ("", "a", [32, 126], "x" * 240):
            self.assertEqual(ask(program('"a"&1[+0:-0]'), whole(o), UNDO, FIELDS),
                             [[0], [1, 1], [-7], told_fields("")])

    def test_texts_of_240_bytes(self):
        show = "&".join([ALL] * 6)
        self.made("x" * 40, show, "x" * 240, "x" * 40)
        self.refused("x" * 40, show, "y" * 240, -3)
        self.refused("x" * 40, show, "x" * 239 + "y", -9)
        self.refused("x" * 40, show, "x" * 241, -1)
        self.refused("ab", ALL, "x" * 240, -9)

    def test_the_outermost_bytes(self):
        self.made("ab", ALL, [32, 126], " ~")
        self.made("ab", ALL, [126, 32], "~ ")

    def test_the_empty_text(self):
        self.refused("ab", ALL, "", -9)
        self.refused("ab", '"a"', "", -3)
        self.refused("ab", ALL + "&" + ALL, "", -3)
        self.refused("ab", "0", "", -3)

    def test_repeated_bytes_put_in(self):
        # What's common at the beginning is counted first, so the new byte is the last one.
        self.made("aA", ALL + "^", "AAA", "aAA")
        self.made("Aa", ALL + "^", "AAA", "AaA")
        self.made(["a", "a"], "1[+0:-0]&2[+0:-0]", "aaa", ["a", "aa"])
        self.made("a", '"a"&1[+0:-0]', "aaa", "aa")
        self.refused("a", '1[+0:-0]&"a"', "aaa", -3)
        self.made("abab", ALL + "^", "ABABAB", "ababAB")
        self.made("aBaB", ALL + "_", "abaab", "aBaaB")

    def test_repeated_bytes_taken_out(self):
        self.made("aAa", ALL + "^", "AA", "aA")
        self.made("Aaa", ALL + "^", "AA", "Aa")
        self.made(["a", "aa"], "1[+0:-0]&2[+0:-0]", "aa", ["a", "a"])
        self.refused(["aa", "a"], "1[+0:-0]&2[+0:-0]", "aa", -9)
        self.made("aa", '"a"&1[+0:-0]', "aa", "a")
        self.refused("aa", '1[+0:-0]&"a"', "aa", -3)
        self.made("aBAb", ALL + "^", "AB", "aB")
        self.made("abAAb", ALL + "^", "ABAB", "abAb")

    def test_there_and_back(self):
        told = ask(record("aA"), program(ALL + "^"), whole("AAA"), FIELDS, whole("AA"), FIELDS, UNDO, UNDO, FIELDS)
        self.assertEqual(told[2:], [[0], told_fields("aAA"), [0], told_fields("aA"), [1], [0], told_fields("aA")])

    def test_over_two_pieces(self):
        self.refused("ab", '"a"&1[+0:-0]', "b", -3)
        self.refused(["ab", "cd"], "1[+0:-0]&2[+0:-0]", "axyd", -3)

    def test_the_second_part_where_the_first_one_fails(self):
        self.made(["ab", "b"], "1[+0:+2]&2[+0:-0]", "abcb", ["ab", "cb"])

    def test_letters_turned_otherwise(self):
        self.refused("ab", ALL + "^", "aB", -9)
        self.refused("AB", ALL + "_", "aB", -9)
        self.refused("ab", ALL + "~", "AB", -9)
        self.made("ab", ALL + "~", "Xb", "Xb")

    def test_length_of_the_field(self):
        self.refused("x" * 40, ALL, "x" * 41, -9)
        self.made("x" * 39, ALL, "x" * 40, "x" * 40)

    def test_a_refusal_leaves_record_and_past(self):
        begin = [record("ab"), program('1[+0:-0]^&"-"'), edit(0, 1, "X")]
        for o, refusal in (([31], -1), ("XB+", -3), ("XB-", -3), ("xB-", -9)):
            told = ask(*begin, whole(o), OUTPUT, FIELDS, UNDO, FIELDS, UNDO)
            self.assertEqual(told[2:], [[0], [refusal], out("XB-"), told_fields("Xb"), [0], told_fields("ab"), [-7]])


if __name__ == "__main__":
    unittest.main()
