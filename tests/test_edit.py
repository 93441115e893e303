"""Promises 8 and 9: could and edit. Each edit is asked for by both."""

import unittest

from calling import FAR, FIELDS, OUTPUT, UNDO, ask, could, edit, out, program, record, told_fields
from editing import EditCase

ALL = "1[+0:-0]"
WRONG_TEXTS = ([31], [127], [0], [10], [128], [255], "ab\x1f", "\x7fab", "x" * 241, " " * 10000)


class Refusals(EditCase):
    def test_places(self):
        for i, j in ((1, 0), (4, 3), (-1, 0), (-1, -1), (0, 5), (4, 5), (5, 5), (5, 4), (0, -1), (FAR, FAR),
                     (-FAR, FAR), (0, FAR), (-FAR, 0), (FAR, -FAR), (-FAR, -FAR), (3, -FAR)):
            for u in ("", "x", *WRONG_TEXTS):
                self.refused("abcd", ALL, (i, j, u), -2)

    def test_places_of_the_empty_output(self):
        for i, j in ((0, 1), (1, 1), (-1, 0), (1, 0), (FAR, FAR)):
            self.refused("abcd", "0", (i, j, ""), -2)

    def test_the_outermost_places(self):
        self.edited("abcd", ALL, (0, 4, "x"), "x", "x")
        self.edited("abcd", ALL, (4, 4, "x"), "abcdx", "abcdx")
        self.edited("abcd", ALL, (0, 0, "x"), "xabcd", "xabcd")

    def test_texts(self):
        for u in WRONG_TEXTS:
            self.refused("abcd", ALL, (0, 1, u), -1)
            self.refused("abcd", ALL, (4, 4, u), -1)

    def test_texts_are_told_ahead_of_parts(self):
        for u in WRONG_TEXTS:
            self.refused("ab", '"xy"&1[+0:-0]&1[+0:-0]', (0, 1, u), -1)
            self.refused("ab", '"xy"&1[+0:-0]&1[+0:-0]', (1, 4, u), -1)
            self.refused("ab", '"xy"&1[+0:-0]&1[+0:-0]', (2, 5, u), -1)
            self.refused("ab", "0", (0, 0, u), -1)

    def test_texts_of_240_bytes(self):
        self.refused("abcd", ALL, (0, 1, "x" * 240), -9)
        self.refused("abcd", '"abcd"', (0, 1, "x" * 240), -3)
        show = "&".join([ALL] * 6)
        self.refused("x" * 40, show, (0, 240, "x" * 240), -3)

    def test_the_outermost_bytes(self):
        self.edited("abcd", ALL, (1, 2, [32]), "a cd", "a cd")
        self.edited("abcd", ALL, (1, 2, [126]), "a~cd", "a~cd")
        self.refused("abcd", '"x"', (0, 1, [32, 126]), -3)

    def test_constants(self):
        show = '"xy"&1[+0:-0]&"z"&"w"'
        for i, j, u in ((0, 1, ";"), (1, 2, ""), (0, 2, "xy"), (0, 0, "a"), (0, 0, ""), (1, 1, "a"), (1, 1, ""),
                        (4, 5, "c"), (5, 5, "c"), (5, 6, "c"), (6, 6, "c"), (6, 6, ""), (4, 6, "")):
            self.refused("ab", show, (i, j, u), -3)

    def test_over_two_pieces(self):
        show = '"xy"&1[+0:-0]&1[+0:-0]&"z"'
        for i, j in ((1, 3), (0, 4), (3, 5), (2, 6), (5, 7), (0, 7)):
            for u in ("", "a", "ab"):
                self.refused("ab", show, (i, j, u), -3)

    def test_over_two_parts_of_one_run_of_bytes(self):
        self.refused("abcd", "1[+0:+2]&1[+2:-0]", (1, 3, "bc"), -3)
        self.refused("abcd", "1[+0:+2]&1[+2:-0]", (1, 3, "xy"), -3)

    def test_the_empty_program(self):
        self.refused("ab", "0", (0, 0, ""), -3)
        self.refused("ab", "0", (0, 0, "x"), -3)
        self.assertEqual(ask(edit(0, 0, "x"), could(0, 0, ""), UNDO), [[-3], [-3], [-7]])


class LedBack(EditCase):
    def test_bytes_are_replaced_put_in_and_taken_out(self):
        self.edited("abcd", ALL, (1, 3, "xy"), "axyd", "axyd")
        self.edited("abcd", ALL, (1, 3, "xyz"), "axyzd", "axyzd")
        self.edited("abcd", ALL, (1, 3, "x"), "axd", "axd")
        self.edited("abcd", ALL, (1, 3, ""), "ad", "ad")
        self.edited("abcd", ALL, (2, 2, "xyz"), "abxyzcd", "abxyzcd")

    def test_the_place_in_the_field_counts_from_where_the_part_begins(self):
        self.edited("ab cde fg", '"-"&1[B|.+1:.|B-1]', (2, 3, "xy"), "ab cxye fg", "-cxye")
        self.edited("abcdef", "1[-4:-1]", (1, 2, "X"), "abcXef", "cXe")
        self.edited("abcdef", '"<"&1[-1:-0]&">"&1[+2:+4]', (4, 5, "X"), "abcXef", "<f>cX")

    def test_the_field_of_the_part(self):
        fields = ["ab", "cd", "ef", "gh"]
        show = "4[+0:-0]&3[+0:-0]&2[+0:-0]&1[+0:-0]"
        self.edited(fields, show, (1, 2, "X"), ["ab", "cd", "ef", "gX"], "gXefcdab")
        self.edited(fields, show, (2, 4, "XYZ"), ["ab", "cd", "XYZ", "gh"], "ghXYZcdab")
        self.edited(fields, show, (5, 6, ""), ["ab", "c", "ef", "gh"], "ghefcab")
        self.edited(fields, show, (8, 8, "X"), ["abX", "cd", "ef", "gh"], "ghefcdabX")

    def test_bytes_put_in_beside_a_constant(self):
        show = '"<"&1[+0:-0]&">"'
        self.edited("ab", show, (1, 1, "xy"), "xyab", "<xyab>")
        self.edited("ab", show, (3, 3, "xy"), "abxy", "<abxy>")
        self.refused("ab", show, (0, 0, "xy"), -3)
        self.refused("ab", show, (4, 4, "xy"), -3)
        # What's put in may look like the constant beside it: it is the part's all the same.
        self.edited("ab", show, (1, 1, "<"), "<ab", "<<ab>")
        self.edited("ab", show, (3, 3, ">"), "ab>", "<ab>>")

    def test_bytes_put_in_between_two_parts(self):
        self.edited(["ab", "cd"], "1[+0:-0]&2[+0:-0]", (2, 2, "x"), ["abx", "cd"], "abxcd")
        self.edited(["ab", "cd"], "2[+0:-0]&1[+0:-0]", (2, 2, "x"), ["ab", "cdx"], "cdxab")

    def test_the_second_part_where_the_first_one_fails(self):
        self.edited(["ab", "cd"], "1[+0:+2]&2[+0:-0]", (2, 2, "x"), ["ab", "xcd"], "abxcd")
        self.edited(["ab", "cd"], "1[+0:-0]^&2[+0:-0]", (2, 2, "x"), ["ab", "xcd"], "ABxcd")
        self.edited(["a" * 40, "cd"], "1[+0:-0]&2[+0:-0]", (40, 40, "x"), ["a" * 40, "xcd"], "a" * 40 + "xcd")
        self.edited(["a1", "cd"], "1[+0:D|.+1]&2[+0:-0]", (2, 2, "x"), ["a1", "xcd"], "a1xcd")
        self.edited("abcd", "1[+0:+2]&1[+2:-0]", (2, 2, ""), "abcd", "abcd")
        self.edited("abcd", "1[+0:+1]&1[+1:-0]", (1, 1, "x"), "axbcd", "axbcd")

    def test_where_both_parts_fail(self):
        self.refused(["ab", "cd"], "1[+0:+2]&2[-2:-0]", (2, 2, "x"), -9)
        self.refused(["ab", "cd"], "1[+0:-0]^&2[+0:-0]_&2[+0:-0]", (2, 2, "x"), -9)

    def test_only_parts_that_hold_the_whole_edit_are_tried(self):
        self.refused("aa", "1[+0:+1]&1[+1:+2]&1[+0:-0]", (0, 1, "b"), -9)
        self.refused(["ab", "ab"], '1[+0:-0]&"-"&2[+0:-0]', (1, 4, "x"), -3)

    def test_the_outputs_beginning_and_end(self):
        self.edited("ab", '1[+0:-0]&"-"', (0, 0, "x"), "xab", "xab-")
        self.edited("ab", '"-"&1[+0:-0]', (3, 3, "x"), "abx", "-abx")

    def test_nothing_put_in(self):
        for i in range(5):
            self.edited("abcd", ALL, (i, i, ""), "abcd", "abcd")
        for i in (1, 2, 3):
            self.edited("ab", '"<"&1[+0:-0]&">"', (i, i, ""), "ab", "<ab>")
        self.edited(["ab", "cd"], "1[+0:+2]&2[-2:-0]", (2, 2, ""), ["ab", "cd"], "abcd")

    def test_bytes_replaced_by_themselves(self):
        self.edited("abcd", ALL, (1, 3, "bc"), "abcd", "abcd")
        self.edited("aBcD", ALL + "^", (0, 4, "ABCD"), "aBcD", "ABCD")

    def test_an_edit_may_make_another_border_the_parts(self):
        # The part begins behind the last blank: a blank put in would move that, but behind it all may change.
        self.edited("a b c", "1[B|.-1:-0]", (0, 1, "xyz"), "a b xyz", "xyz")
        self.refused("a b c", "1[B|.-1:-0]", (0, 1, "x y"), -9)
        self.edited("a b c", "1[B|.+1:-0]", (1, 2, ""), "a bc", "bc")


class NotLedBack(EditCase):
    def test_letters_turned_otherwise(self):
        self.refused("ab", ALL + "^", (0, 1, "x"), -9)
        self.edited("ab", ALL + "^", (0, 1, "X"), "Xb", "XB")
        self.refused("AB", ALL + "_", (0, 1, "X"), -9)
        self.edited("AB", ALL + "_", (0, 1, "x"), "xB", "xb")
        self.refused("ab", ALL + "~", (0, 1, "x"), -9)
        self.edited("ab", ALL + "~", (0, 1, "X"), "Xb", "Xb")
        self.refused("ab", ALL + "~", (1, 2, "X"), -9)
        self.edited("AB", ALL + "~", (1, 2, "x"), "Ax", "Ax")
        self.refused("ab", ALL + "~", (0, 1, ""), -9)
        self.edited("ab", ALL + "^", (1, 1, "1-"), "a1-b", "A1-B")

    def test_the_first_letter_moves(self):
        # With ~ another byte at the beginning turns the one that was first to a small letter.
        self.refused("ab", ALL + "~", (0, 0, "X"), -9)
        self.edited("ab", ALL + "~", (0, 1, "Xa"), "Xab", "Xab")
        self.edited("1b", ALL + "~", (0, 0, "X"), "X1b", "X1b")

    def test_a_border_moves(self):
        self.refused("Ada Love", "1[B|.+1:-0]", (0, 0, " "), -9)
        self.refused("Ada Love", "1[B|.+1:-0]", (0, 1, " "), -9)
        self.refused("a12b", "1[.|D+1:D|.+1]", (1, 1, "x"), -9)
        self.refused("a12b", "1[.|D+1:D|.+1]", (0, 0, "x"), -9)
        self.refused("a12b", "1[.|D+1:D|.+1]", (2, 2, "x"), -9)
        self.edited("a12b", "1[.|D+1:D|.+1]", (1, 1, "0"), "a102b", "102")
        self.refused("abcd", "1[+0:+2]", (1, 1, "x"), -9)
        self.refused("abcd", "1[+0:+2]", (1, 2, ""), -9)

    def test_a_border_moves_in_another_part(self):
        self.refused("a-b", '1[+0:\'-|.+1]&"/"&1[\'-|.+1:-0]', (0, 0, "-"), -9)
        self.edited("a-b", '1[+0:.|\'-+1]&"/"&1[\'-|.+1:-0]', (0, 1, "xy"), "xy-b", "xy/b")
        self.refused("a-b", '1[+0:.|\'-+1]&"/"&1[\'-|.+1:-0]', (0, 1, "x-y"), -9)

    def test_length_of_the_field(self):
        full = "x" * 40
        self.refused(full, ALL, (40, 40, "a"), -9)
        self.refused(full, ALL, (0, 0, "a"), -9)
        self.refused(full, ALL, (0, 1, "ab"), -9)
        self.edited(full, ALL, (0, 1, "a"), "a" + "x" * 39, "a" + "x" * 39)
        self.edited("x" * 39, ALL, (39, 39, "a"), "x" * 39 + "a", "x" * 39 + "a")
        self.refused("x" * 39, ALL, (39, 39, "ab"), -9)
        self.refused(["ab", full], '1[+0:-0]&"-"&2[+0:-0]', (3, 3, "a"), -9)
        self.edited(["ab", full], '1[+0:-0]&"-"&2[+0:-0]', (2, 2, "c"), ["abc", full], "abc-" + full)

    def test_a_piece_gives_nothing(self):
        self.refused("abcd", ALL, (0, 4, ""), -9)
        self.refused("abcd", '"<"&1[+1:+2]&">"', (1, 2, ""), -9)
        self.refused("abcd", '1[+0:-0]&"-"&1[+3:+4]', (0, 1, ""), -9)
        self.refused("a!", '1[+0:-0]&"-"&1[.|\'!+1:-0]', (1, 2, "c"), -9)

    def test_another_part_shows_the_changed_byte(self):
        show = '1[+0:-0]&"-"&1[+0:+1]'
        self.refused("abc", show, (0, 1, "x"), -9)
        self.refused("abc", show, (0, 0, "x"), -9)
        self.refused("abc", show, (4, 5, "x"), -9)
        self.edited("abc", show, (1, 2, "x"), "axc", "axc-a")
        self.edited("abc", show, (3, 3, "x"), "abcx", "abcx-a")
        self.refused("ab", "1[+0:-0]&1[+0:-0]", (0, 2, "xy"), -9)


class Common(EditCase):
    """What the replaced bytes and the text have in common stays as it was in the field."""

    def test_at_the_beginning(self):
        self.edited("Ada Love", "1[B|.+1:-0]^", (0, 4, "LOVELACE"), "Ada LoveLACE", "LOVELACE")
        self.edited("AdA", ALL + "_", (0, 3, "adam"), "AdAm", "adam")
        self.edited("adA", ALL + "~", (0, 3, "Adam"), "adAm", "Adam")

    def test_at_the_end(self):
        self.edited("ada", ALL + "^", (0, 3, "XDA"), "Xda", "XDA")
        self.edited("ADA", ALL + "_", (0, 3, "xda"), "xDA", "xda")
        self.edited("aDA", ALL + "~", (0, 3, "Xda"), "XDA", "Xda")

    def test_at_both(self):
        self.edited("Ada Love", ALL + "^", (0, 8, "ADA LIVE"), "Ada LIve", "ADA LIVE")
        self.edited("Ada Love", ALL + "^", (1, 7, "DA V"), "Ada ve", "ADA VE")
        self.edited("Ada Love", ALL + "^", (2, 6, "A-LXO"), "Ada-LXove", "ADA-LXOVE")
        self.edited("xyz", ALL + "^", (0, 3, "XZ"), "xz", "XZ")
        self.edited("xz", ALL + "^", (0, 2, "XYZ"), "xYz", "XYZ")

    def test_the_end_is_counted_behind_the_beginning(self):
        self.edited("aA", ALL + "^", (0, 2, "AAA"), "aAA", "AAA")
        self.edited("Aa", ALL + "^", (0, 2, "AAA"), "AaA", "AAA")
        self.edited("aAa", ALL + "^", (0, 3, "AA"), "aA", "AA")
        self.edited("Aaa", ALL + "^", (0, 3, "AA"), "Aa", "AA")
        self.edited("aBAb", ALL + "^", (0, 4, "AB"), "aB", "AB")
        self.edited("Aba", ALL + "^", (0, 3, "ABABA"), "AbaBA", "ABABA")
        self.edited("ab", ALL + "^", (0, 2, "AAB"), "aAb", "AAB")
        self.edited("aab", ALL + "^", (0, 3, "AB"), "ab", "AB")
        self.edited("aBa", ALL + "^", (0, 3, "A"), "a", "A")
        self.edited("aBA", ALL + "^", (0, 3, "ABABA"), "aBABA", "ABABA")

    def test_only_the_replaced_bytes_are_looked_at(self):
        # Before and behind them the bytes stay anyhow; the text itself is put in as it stands.
        self.edited("ab", ALL + "^", (1, 1, "A"), "aAb", "AAB")
        self.edited("ab", ALL + "^", (1, 1, "B"), "aBb", "ABB")
        self.edited("ab", ALL + "^", (0, 0, "A"), "Aab", "AAB")
        self.edited("ab", ALL + "^", (2, 2, "B"), "abB", "ABB")

    def test_with_a_constant_of_the_same_bytes_beside(self):
        self.edited("ab", '"A"&1[+0:-0]^', (1, 3, "AAB"), "aAb", "AAAB")


class Line(unittest.TestCase):
    def test_one_edit_behind_another(self):
        told = ask(record("ab", "cd"), program('1[+0:-0]&"-"&2[+0:-0]^'), edit(2, 2, "x"), edit(5, 6, "YZ"),
                   edit(0, 3, ""), edit(0, 2, "q"), OUTPUT, FIELDS)
        self.assertEqual(told[2:], [[0], [0], [-9], [0], out("qx-CYZ"), told_fields("qx", "cYZ")])

    def test_could_is_no_edit(self):
        told = ask(record("ab"), program("1[+0:-0]"), edit(0, 1, "x"), could(0, 1, "y"), could(0, 2, "z"), FIELDS,
                   UNDO, FIELDS, UNDO)
        self.assertEqual(told[3:], [[0] + told_fields("yb"), [0] + told_fields("z"), told_fields("xb"), [0],
                                    told_fields("ab"), [-7]])

    def test_the_answer_of_could_is_exact(self):
        told = ask(record("ab", "", "~"), program("1[+0:-0]"), could(1, 2, " x"))
        self.assertEqual(told[2], [0, 3, 3, 97, 32, 120, 0, 1, 126])

    def test_a_refusal_leaves_record_and_past(self):
        begin = [record("ab"), program('1[+0:-0]^&"-"'), edit(0, 1, "X")]
        for change, refusal in (((0, 4, ""), -2), ((0, 1, [31]), -1), ((2, 3, "x"), -3), ((0, 1, "x"), -9)):
            for call in (edit, could):
                told = ask(*begin, call(*change), OUTPUT, FIELDS, UNDO, FIELDS, UNDO)
                self.assertEqual(told[2:], [[0], [refusal], out("XB-"), told_fields("Xb"), [0],
                                            told_fields("ab"), [-7]])


if __name__ == "__main__":
    unittest.main()
