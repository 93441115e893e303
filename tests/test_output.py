"""Promise 3: output, of positions, classes, pieces and programs."""

import unittest

from calling import OUTPUT, ask, out, program, record


class Output(unittest.TestCase):
    def gives(self, fields, written, expected):
        """expected: a text, or the number of the first piece that gives nothing."""
        if isinstance(fields, str):
            fields = [fields]
        answer = [1, expected] if isinstance(expected, int) else out(expected)
        with self.subTest(fields=fields, written=written):
            self.assertEqual(ask(record(*fields), program(written), OUTPUT), [[0], [0], answer])

    def test_the_empty_program_gives_the_empty_text(self):
        self.assertEqual(ask(OUTPUT), [[0]])
        self.gives("abc", "0", "")

    def test_constants(self):
        self.gives("", '"a"', "a")
        self.gives("", '" ~"', " ~")
        self.gives("", '"a""b"&"c"', 'a"bc')

    def test_places_from_the_start(self):
        self.gives("abcd", "1[+0:+4]", "abcd")
        self.gives("abcd", "1[+1:+3]", "bc")
        self.gives("abcd", "1[+0:+5]", 0)
        self.gives("abcd", "1[+5:-0]", 0)
        self.gives("abcd", "1[+0:+60]", 0)
        self.gives("x" * 40, "1[+0:+40]", "x" * 40)
        self.gives("x" * 40, "1[+0:+41]", 0)

    def test_places_from_the_end(self):
        self.gives("abcd", "1[-4:-0]", "abcd")
        self.gives("abcd", "1[-3:-1]", "bc")
        self.gives("abcd", "1[-5:-0]", 0)
        self.gives("abcd", "1[+0:-5]", 0)
        self.gives("abcd", "1[-60:-0]", 0)
        self.gives("abcd", "1[+1:-1]", "bc")

    def test_the_second_place_is_behind_the_first(self):
        self.gives("abcd", "1[+2:+2]", 0)
        self.gives("abcd", "1[+2:+1]", 0)
        self.gives("abcd", "1[-0:+0]", 0)
        self.gives("abcd", "1[+2:-2]", 0)
        self.gives("", "1[+0:-0]", 0)
        self.gives("abcd", "1[+2:+3]", "c")

    def test_borders_from_the_left(self):
        self.gives("one two  three", "1[B|.+1:-0]", "two  three")
        self.gives("one two  three", "1[.|B+1:-0]", " two  three")
        self.gives("one two  three", "1[B|L+2:-0]", "three")
        self.gives("one two  three", "1[B|L+3:-0]", 0)
        self.gives("one two  three", "1[.|L+1:L|.+1]", "one")
        self.gives("one two  three", "1[.|L+3:L|.+3]", "three")
        self.gives("one two  three", "1[.|L+4:-0]", 0)

    def test_borders_from_the_right(self):
        self.gives("one two  three", "1[.|L-1:L|.-1]", "three")
        self.gives("one two  three", "1[.|L-3:L|.-3]", "one")
        self.gives("one two  three", "1[.|L-4:-0]", 0)
        self.gives("one two  three", "1[B|L-1:-0]", "three")
        self.gives("one two  three", "1[B|L-2:-0]", "two  three")
        self.gives("one two  three", "1[L|B-1:-0]", "  three")
        self.gives("one two  three", "1[L|B-3:-0]", 0)

    def test_borders_at_the_texts_beginning_and_end(self):
        self.gives("12ab", "1[.|D+1:D|L+1]", "12")
        self.gives("12ab", "1[D|L+1:L|.+1]", "ab")
        self.gives("12ab", "1[.|L+1:L|.-1]", "ab")
        self.gives("12ab", "1[L|D+1:-0]", 0)
        self.gives("", "1[.|D+1:-0]", 0)

    def test_a_border_needs_the_run_to_begin(self):
        # Within a run nothing begins or ends; nor does a class end where one that holds it begins.
        self.gives("1234", "1[.|D+2:-0]", 0)
        self.gives("a1b", "1[A|N+1:-0]", 0)
        self.gives("a1b", "1[N|A+1:-0]", 0)
        self.gives("a1b", "1[A|D+1:-0]", "1b")
        self.gives("aB", "1[L|U+1:-0]", "B")
        self.gives("aB", "1[A|U+1:-0]", 0)
        self.gives("aB", "1[.|A+2:-0]", 0)

    def test_each_class(self):
        field = "x Qz7!q8"
        self.gives(field, "1[.|D+1:D|.+1]", "7")
        self.gives(field, "1[.|D+2:D|.+2]", "8")
        self.gives(field, "1[.|U+1:U|.+1]", "Q")
        self.gives(field, "1[.|U+2:-0]", 0)
        self.gives(field, "1[.|L+1:L|.+1]", "x")
        self.gives(field, "1[.|L+2:L|.+2]", "z")
        self.gives(field, "1[.|A+2:A|.+2]", "Qz")
        self.gives(field, "1[.|A+3:A|.+3]", "q")
        self.gives(field, "1[.|N+2:N|.+2]", "Qz7")
        self.gives(field, "1[.|N+3:N|.+3]", "q8")
        self.gives(field, "1[.|B+1:B|.+1]", " ")
        self.gives(field, "1[.|B+2:-0]", 0)
        self.gives(field, "1[.|'!+1:'!|.+1]", "!")
        self.gives(field, "1['!|L+1:-0]", "q8")

    def test_the_ends_of_each_class(self):
        spans = (("D", "09"), ("U", "AZ"), ("L", "az"), ("A", "AZ"), ("A", "az"),
                 ("N", "09"), ("N", "AZ"), ("N", "az"), ("B", "  "))
        for sign, (low, high) in spans:
            for inside in (low, high):
                self.gives("~" + inside + "~", "1[.|%s+1:%s|.+1]" % (sign, sign), inside)
        for sign, outside in (("D", "/:aA "), ("U", "@[a9 "), ("L", "`{A9 "), ("A", "@[`{9 "),
                              ("N", "/:@[`{ "), ("B", "!a0"), ("'!", '"a0 ')):
            for byte in outside:
                self.gives(byte, "1[.|%s+1:-0]" % sign, 0)

    def test_quoted_classes(self):
        for c in range(33, 127):
            if not chr(c).isalnum():
                self.gives("a" + chr(c) * 2 + "b", "1[.|'%s+1:'%s|.+1]" % (chr(c), chr(c)), chr(c) * 2)
        self.gives("a'b|c\"d", "1[''|L+1:.|'|+1]", "b")
        self.gives("a'b|c\"d", "1['||.+1:.|'\"+1]", "c")

    def test_many_borders(self):
        field = "a " * 20
        self.gives(field, "1[.|B+20:-0]", " ")
        self.gives(field, "1[.|B+21:-0]", 0)
        self.gives(field, "1[.|L-20:+1]", "a")
        self.gives(field, "1[.|L+40:-0]", 0)

    def test_turns(self):
        field = "mIxEd @[`{ 09"
        self.gives(field, "1[+0:-0]", "mIxEd @[`{ 09")
        self.gives(field, "1[+0:-0]^", "MIXED @[`{ 09")
        self.gives(field, "1[+0:-0]_", "mixed @[`{ 09")
        self.gives(field, "1[+0:-0]~", "Mixed @[`{ 09")
        self.gives("azAZ", "1[+0:-0]^", "AZAZ")
        self.gives("azAZ", "1[+0:-0]_", "azaz")
        self.gives("zAZ", "1[+0:-0]~", "Zaz")
        self.gives("1AB", "1[+0:-0]~", "1ab")
        self.gives("xaBC", "1[+1:-0]~", "Abc")

    def test_fields(self):
        fields = ["one", "two", "three", "four"]
        self.gives(fields, "4[+0:-0]&3[+0:-0]&2[+0:-0]&1[+0:-0]", "fourthreetwoone")
        self.gives(["one"], "2[+0:-0]", 0)
        self.gives(["one", "two", "three"], "4[+0:-0]", 0)
        self.gives(["one", "", "three"], "2[+0:-0]", 0)

    def test_pieces_one_behind_another(self):
        self.gives("abc", '1[+0:+1]&"-"&1[+1:+2]^&"-"&1[+2:+3]&"."', "a-B-c.")
        self.gives("x" * 40, "&".join(["1[+0:-0]"] * 6), "x" * 240)

    def test_the_first_piece_that_gives_nothing(self):
        self.gives("ab", '1[+3:-0]&"x"', 0)
        self.gives("ab", '"x"&1[+3:-0]', 1)
        self.gives("ab", '"x"&1[+3:-0]&2[+0:-0]', 1)
        self.gives("ab", '"a"&"b"&"c"&"d"&1[+0:-0]&2[+0:-0]', 5)


if __name__ == "__main__":
    unittest.main()
