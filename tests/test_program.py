"""Promise 1: program."""

import unittest

from calling import FIELDS, OUTPUT, ask, last, out, program, record, told_fields

SIX = "&".join(['"a"'] * 6)


class ProgramCase(unittest.TestCase):
    def taken(self, *texts):
        for written in texts:
            with self.subTest(written=written):
                self.assertEqual(last(program(written)), [0])

    def fault(self, written, kind, place):
        with self.subTest(written=written):
            self.assertEqual(last(program(written)), [kind, place])


class Taken(ProgramCase):
    def test_ordinary_programs(self):
        self.taken(
            "0",
            '"a"',
            "1[+0:-0]",
            "4[+0:-0]",
            "2[+1:-1]^",
            "2[+1:-1]_",
            "3[B|.+1:.|B-2]~",
            '1[B|.+1:-0]^&", "&1[+0:+1]',
            SIX,
        )

    def test_becomes_the_program(self):
        self.assertEqual(ask(program('"x"'), OUTPUT, program('"y"'), OUTPUT, program("0"), OUTPUT),
                         [[0], out("x"), [0], out("y"), [0], out("")])

    def test_keeps_the_record(self):
        self.assertEqual(last(record("ab", "c"), program('"y"'), FIELDS), told_fields("ab", "c"))

    def test_constants(self):
        self.taken('" "', '"~"', '"&"', '"0"', '"1[+0:-0]"', '""""', '"a""b"', '"""a"', '"a"""',
                   '"123456789012"', '"' + '""' * 12 + '"')
        self.assertEqual(last(program('"a""b"'), OUTPUT), out('a"b'))
        self.assertEqual(last(program('""""'), OUTPUT), out('"'))
        self.assertEqual(last(program('""""""'), OUTPUT), out('""'))
        self.assertEqual(last(program('"' + '""' * 12 + '"'), OUTPUT), out('"' * 12))
        self.assertEqual(last(program('"""1234567890"""'), OUTPUT), out('"1234567890"'))

    def test_numbers(self):
        for sign in "+-":
            for k in (0, 1, 9, 10, 40, 41, 59, 60):
                self.taken("1[%s%d:-0]" % (sign, k), "1[+0:%s%d]" % (sign, k))
            for c in (1, 9, 10, 39, 40):
                self.taken("1[D|L%s%d:-0]" % (sign, c), "1[+0:D|L%s%d]" % (sign, c))

    def test_classes(self):
        quoted = [c for c in range(33, 127) if not chr(c).isalnum()]
        signs = ["D", "L", "U", "A", "N", "B", "."] + ["'" + chr(c) for c in quoted]
        for sign in signs:
            self.taken("1[%s|D+1:-0]" % sign, "1[+0:D|%s-1]" % sign)
        self.taken("1[''|'|+1:'\"|'--1]")


class Faults(ProgramCase):
    def test_empty_text(self):
        self.fault("", 1, 0)

    def test_behind_the_empty_program(self):
        self.fault("00", 1, 1)
        self.fault('0&"a"', 1, 1)
        self.fault("0 ", 1, 1)
        self.fault("0&", 1, 1)

    def test_no_piece(self):
        self.fault("x", 1, 0)
        self.fault(" 0", 1, 0)
        self.fault("&", 1, 0)
        self.fault("[", 1, 0)
        self.fault([0], 1, 0)
        self.fault([255], 1, 0)
        self.fault('"a"&', 1, 4)
        self.fault('"a"&&"b"', 1, 4)
        self.fault('"a"&0', 1, 4)
        self.fault('"a" &"b"', 1, 3)
        self.fault('"a"& "b"', 1, 4)
        self.fault('"a"b', 1, 3)
        self.fault('"a"^', 1, 3)
        self.fault(SIX + "x", 1, len(SIX))

    def test_no_field(self):
        for digit in "056789":
            self.fault('"a"&%s[+0:-0]' % digit, 1, 4)
        for digit in "56789":
            self.fault("%s[+0:-0]" % digit, 1, 0)
        self.fault("11[+0:-0]", 1, 1)

    def test_bytes_of_constants(self):
        self.fault('"a\x1fb"', 1, 2)
        self.fault('"a\x7fb"', 1, 2)
        self.fault('"a\xffb"', 1, 2)
        self.fault('"\x00"', 1, 1)
        self.fault('"a"\x00', 1, 3)
        self.fault('"a', 1, 2)
        self.fault('"', 1, 1)
        self.fault('"a""', 1, 4)
        self.fault('"""', 1, 3)

    def test_length_of_constants(self):
        self.fault('""', 2, 0)
        self.fault('"1234567890123"', 2, 0)
        self.fault('"' + '""' * 13 + '"', 2, 0)
        self.fault('"a"&""', 2, 4)
        self.fault('"a"&""&"b"', 2, 4)
        self.fault('1[+0:-0]&"1234567890123"', 2, 9)
        self.fault('"' + "a" * 998 + '"', 2, 0)

    def test_length_of_constants_is_told_at_their_end(self):
        self.fault('"1234567890123', 1, 14)
        self.fault('"1234567890123\x1f"', 1, 14)
        self.fault('""x', 2, 0)
        self.fault('""\x00', 2, 0)
        self.fault('"1234567890123"x', 2, 0)

    def test_parts_are_spelled_out(self):
        written = "1[+10:A|'--40]^&2[.|U-1:-0]"
        for place, wrong in ((1, "("), (2, "1"), (3, "+"), (5, "["), (6, "|"), (7, "+"), (8, "a"), (9, "0"),
                             (10, "/"), (13, "+"), (14, "["), (15, "~"), (16, "x"), (20, "x"), (22, "|")):
            self.fault(written[:place] + wrong + "]", 1, place)

    def test_the_text_ends_too_early(self):
        written = "1[+10:A|'--40]^&2[.|U-1:-0]"
        complete = (14, 15, 27)
        for length in range(len(written) + 1):
            if length in complete:
                self.taken(written[:length])
            else:
                self.fault(written[:length], 1, length)

    def test_turns(self):
        self.fault("1[+0:-0]^^", 1, 9)
        self.fault("1[+0:-0]^_", 1, 9)
        self.fault("1[+0:-0]*", 1, 8)
        self.fault("1[+0:-0] ", 1, 8)

    def test_numbers_from_an_end(self):
        for sign in "+-":
            for wrong in ("61", "99", "00", "05", "100", "000", "060", "1" * 900):
                self.fault("1[%s%s:-0]" % (sign, wrong), 3, 3)
                self.fault("1[+0:%s%s]" % (sign, wrong), 3, 6)
            self.fault("1[%s:-0]" % sign, 1, 3)
            self.fault("1[%s%s1:-0]" % (sign, sign), 1, 3)
            self.fault("1[%s 1:-0]" % sign, 1, 3)

    def test_numbers_of_borders(self):
        for sign in "+-":
            for wrong in ("0", "41", "60", "99", "00", "01", "05", "100", "040"):
                self.fault("1[D|L%s%s:-0]" % (sign, wrong), 3, 6)
                self.fault("1[+0:D|.%s%s]" % (sign, wrong), 3, 9)
            self.fault("1[D|L%s:-0]" % sign, 1, 6)

    def test_numbers_are_told_ahead_of_what_follows(self):
        self.fault("1[+61", 3, 3)
        self.fault("1[+61x", 3, 3)
        self.fault("1[+00", 3, 3)
        self.fault("1[D|L+0", 3, 6)
        self.fault("1[+61:-99]", 3, 3)
        self.fault("1[+0:-99", 3, 6)
        self.fault("1[+6x", 1, 4)

    def test_no_class(self):
        for sign in 'C0b"|:[^_~ad\x00\xff ':
            self.fault("1[%s|D+1:-0]" % sign, 1, 2)
            self.fault("1[+0:D|%s-1]" % sign, 1, 7)

    def test_quoted_classes(self):
        for sign in "azAZ09 \x1f\x7f\x80\xff\x00":
            self.fault("1['%s|D+1:-0]" % sign, 1, 3)
            self.fault("1[+0:D|'%s-1]" % sign, 1, 8)
        self.fault("1['", 1, 3)
        self.fault("1['|", 1, 4)
        self.fault("1[D|'", 1, 5)

    def test_two_empty_classes(self):
        self.fault("1[.|.+1:-0]", 4, 2)
        self.fault("1[+0:.|.-1]", 4, 5)
        self.fault('"a"&1[.|.+1:-0]', 4, 6)

    def test_two_empty_classes_are_told_behind_the_second(self):
        self.fault("1[.|.", 4, 2)
        self.fault("1[.|.x", 4, 2)
        self.fault("1[.|.+0:-0]", 4, 2)
        self.fault("1[.|", 1, 4)
        self.fault("1[.:", 1, 3)
        self.fault("1[.|C", 1, 4)

    def test_seventh_piece(self):
        self.taken(SIX)
        place = len(SIX) + 1
        for behind in ("", '"a"', "0", '""', "x", "\x00", "&", '"a"&"a"'):
            self.fault(SIX + "&" + behind, 5, place)
        parts = "&".join(["1[+0:-0]^"] * 7)
        self.fault(parts, 5, 60)

    def test_the_first_fault_counts(self):
        self.fault('""&1[+99:-0]&1[.|.+1:-0]&x', 2, 0)
        self.fault('1[+99:-0]&""&1[.|.+1:-0]&x', 3, 3)
        self.fault('1[.|.+1:-0]&1[+99:-0]&""&x', 4, 2)
        self.fault('x&1[.|.+1:-0]&1[+99:-0]&""', 1, 0)
        self.fault('""&' + SIX, 2, 0)
        self.fault(SIX[:-3] + '""&x', 2, len(SIX) - 3)

    def test_long_texts(self):
        self.fault("x" * 1000, 1, 0)
        self.fault('"' + "a" * 999, 1, 1000)
        self.assertEqual(last(program("x" * 1001)), [-5])
        self.assertEqual(last(program('"' + "a" * 1000)), [-5])
        self.assertEqual(last(program("0" * 1001)), [-5])
        self.assertEqual(last(program("\x00" * 10000)), [-5])

    def test_a_fault_leaves_the_object_as_it_was(self):
        begin = [record("ab", "c"), program('1[+0:+1]&"x"')]
        wrongs = ["", "x", '""', "1[+61:-0]", "1[.|.+1:-0]", SIX + '&"b"', '"b"&x', "0" * 1001]
        for wrong in wrongs:
            with self.subTest(wrong=wrong):
                told = ask(*begin, program(wrong), OUTPUT, FIELDS)
                self.assertNotEqual(told[2], [0])
                self.assertEqual(told[3:], [out("ax"), told_fields("ab", "c")])


if __name__ == "__main__":
    unittest.main()
