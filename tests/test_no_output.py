"""Where there is no output: what each call answers, and that the object is as it was."""

import unittest

from calling import (FAR, FIELDS, OUTPUT, SOURCES, UNDO, ask, could, edit, free, last, out, piece, program, record,
                     spread, told_fields, whole)

# Each of these is answered 1 and the piece's number, whatever else is wrong in it.
CALLS = (
    OUTPUT, SOURCES, piece(0), piece(-1), piece(FAR), piece(-FAR),
    spread(1, 0), spread(0, 0), spread(1, 2), spread(9, -1), spread(-FAR, FAR),
    could(0, 0, ""), could(0, 1, "x"), could(1, 0, ""), could(-1, FAR, [31]), could(0, 0, "x" * 241),
    edit(0, 0, ""), edit(0, 1, "x"), edit(1, 0, ""), edit(-1, FAR, [31]), edit(0, 0, "x" * 241),
    whole(""), whole("x"), whole("xab"), whole(" ~" * 120),
    free(0), free(1), free(-1), free(FAR),
)


class NoOutput(unittest.TestCase):
    def test_the_first_piece_that_gives_nothing(self):
        cases = (("2[+0:-0]", 0), ('"x"&2[+0:-0]', 1), ('"x"&1[+0:-0]&1[+3:-0]&2[+0:-0]&"y"', 2),
                 ('"a"&"b"&"c"&"d"&1[+0:-0]&1[.|D+1:-0]', 5))
        for written, number in cases:
            for call in CALLS:
                with self.subTest(written=written, call=call):
                    self.assertEqual(last(record("ab"), program(written), call), [1, number])

    def test_the_object_is_as_it_was(self):
        for call in CALLS:
            with self.subTest(call=call):
                told = ask(record("ab"), program('"x"&2[+0:-0]'), call, FIELDS, UNDO, call, record("ab", "c"), OUTPUT)
                self.assertEqual(told[2:], [[1, 1], told_fields("ab"), [-7], [1, 1], [0], out("xc")])

    def test_a_wrong_text_of_whole_is_told_ahead(self):
        for o in ([31], [127], "x" * 241, "xab\n"):
            told = ask(record("ab"), program('"x"&2[+0:-0]'), whole(o), FIELDS, UNDO, record("ab", "c"), OUTPUT)
            self.assertEqual(told[2:], [[-1], told_fields("ab"), [-7], [0], out("xc")])

    def test_the_calls_that_need_no_output(self):
        told = ask(record("ab"), program("2[+0:-0]"), FIELDS, UNDO, record("c"), FIELDS, program("0"), OUTPUT)
        self.assertEqual(told[2:], [told_fields("ab"), [-7], [0], told_fields("c"), [0], [0]])

    def test_an_empty_field(self):
        for call in CALLS:
            self.assertEqual(ask(program("1[+0:-0]"), call), [[0], [1, 0]])


if __name__ == "__main__":
    unittest.main()
