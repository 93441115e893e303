"""Promise 12: undo, and the past that the object holds."""

import unittest

from calling import (FIELDS, OUTPUT, UNDO, ask, could, edit, free, last, out, program, record, spread, told_fields,
                     whole)

SHOW = program("1[+0:-0]")


def letters(count):
    """Many edits of the one byte of a field, the k-th (from 0) to the byte 33 + k."""
    return [edit(0, 1, [33 + k]) for k in range(count)]


def undone(count):
    """As often undo, each with fields behind it."""
    return [call for _ in range(count) for call in (UNDO, FIELDS)]


class EmptyPast(unittest.TestCase):
    def test_at_the_beginning(self):
        self.assertEqual(ask(UNDO, UNDO), [[-7], [-7]])

    def test_program_and_record_are_not_undone(self):
        told = ask(record("a"), SHOW, record("b"), UNDO, FIELDS, OUTPUT)
        self.assertEqual(told[3:], [[-7], told_fields("b"), out("b")])

    def test_where_there_is_no_output(self):
        self.assertEqual(ask(program("2[+0:-0]"), UNDO), [[0], [-7]])


class Undo(unittest.TestCase):
    def test_behind_edits(self):
        told = ask(record("ab", "c"), SHOW, edit(0, 1, "x"), edit(2, 2, "yz"), edit(1, 3, ""), *undone(4), OUTPUT)
        self.assertEqual(told[5:], [[2], told_fields("xbyz", "c"), [1], told_fields("xb", "c"),
                                    [0], told_fields("ab", "c"), [-7], told_fields("ab", "c"), out("ab")])

    def test_behind_whole(self):
        told = ask(record("ab"), SHOW, whole("xb"), whole("xbyz"), edit(0, 1, "w"), *undone(4))
        self.assertEqual(told[5:], [[2], told_fields("xbyz"), [1], told_fields("xb"), [0], told_fields("ab"),
                                    [-7], told_fields("ab")])

    def test_edits_that_change_nothing_are_undone_as_well(self):
        told = ask(record("ab"), SHOW, edit(1, 1, ""), edit(0, 2, "ab"), whole("ab"), *undone(4))
        self.assertEqual(told[5:], [[2], told_fields("ab"), [1], told_fields("ab"), [0], told_fields("ab"),
                                    [-7], told_fields("ab")])

    def test_edits_behind_undo(self):
        told = ask(record("a"), SHOW, edit(0, 1, "b"), edit(0, 1, "c"), UNDO, edit(0, 1, "d"), edit(0, 1, "e"),
                   *undone(4))
        self.assertEqual(told[7:], [[2], told_fields("d"), [1], told_fields("b"), [0], told_fields("a"),
                                    [-7], told_fields("a")])

    def test_other_calls_between(self):
        others = [could(0, 1, "q"), could(0, 9, ""), free(0), free(9), spread(1, 0), OUTPUT, FIELDS, edit(0, 9, ""),
                  edit(0, 1, [31]), edit(2, 3, "x"), edit(0, 2, ""), whole("ab"), whole([31]), whole("")]
        for other in others:
            told = ask(record("ab"), program('1[+0:-0]&" "'), edit(0, 1, "x"), other, UNDO, other, FIELDS, UNDO)
            self.assertEqual([told[4]] + told[6:], [[0], told_fields("ab"), [-7]], other)

    def test_a_refused_undo_leaves_the_object_as_it_was(self):
        told = ask(record("ab"), SHOW, UNDO, UNDO, edit(0, 1, "x"), OUTPUT, UNDO, UNDO, OUTPUT)
        self.assertEqual(told[2:], [[-7], [-7], [0], out("xb"), [0], [-7], out("ab")])


class FullPast(unittest.TestCase):
    def test_fifty_edits(self):
        told = ask(record("a"), SHOW, *letters(50), *undone(51))
        records = [told_fields([33 + k]) for k in range(48, -1, -1)] + [told_fields("a")]
        self.assertEqual(told[2:52], [[0]] * 50)
        self.assertEqual(told[52::2], [[k] for k in range(49, -1, -1)] + [[-7]])
        self.assertEqual(told[53::2], records + [told_fields("a")])

    def test_the_first_one_of_more_is_forgotten(self):
        for count in (51, 52, 60):
            told = ask(record("a"), SHOW, *letters(count), *undone(51))
            records = [told_fields([33 + k]) for k in range(count - 2, count - 52, -1)]
            self.assertEqual(told[2:2 + count], [[0]] * count)
            self.assertEqual(told[2 + count::2], [[k] for k in range(49, -1, -1)] + [[-7]])
            self.assertEqual(told[3 + count::2], records + [records[-1]])

    def test_whole_forgets_as_well(self):
        told = ask(record("a"), SHOW, *[whole([33 + k]) for k in range(51)], *undone(51))
        self.assertEqual(told[-102:][::2], [[k] for k in range(49, -1, -1)] + [[-7]])
        self.assertEqual(told[-1], told_fields([33]))

    def test_refused_edits_and_could_forget_nothing(self):
        told = ask(record("a"), SHOW, *letters(50), edit(0, 1, ""), could(0, 1, "x"), whole(""), edit(0, 2, "x"),
                   *undone(51))
        self.assertEqual(told[-1], told_fields("a"))

    def test_there_is_room_again_behind_undo(self):
        told = ask(record("a"), SHOW, *letters(50), UNDO, edit(0, 1, "x"), *undone(51))
        self.assertEqual(told[-102], [49])
        self.assertEqual(told[-1], told_fields("a"))


class EmptiedPast(unittest.TestCase):
    begin = (record("ab"), SHOW, edit(0, 1, "x"), edit(1, 2, "y"))

    def test_by_program(self):
        for written in ("0", "1[+0:-0]", '"a"', "2[+0:-0]"):
            self.assertEqual(ask(*self.begin, program(written), UNDO, FIELDS)[4:], [[0], [-7], told_fields("xy")])

    def test_by_record(self):
        for field in ("c", "xy", "ab"):
            self.assertEqual(ask(*self.begin, record(field), UNDO, FIELDS)[4:], [[0], [-7], told_fields(field)])

    def test_not_by_a_fault(self):
        for written in ("", "x", '""', "1[+61:-0]", "1[.|.+1:-0]", "&".join(['"a"'] * 7), "0" * 1001):
            told = ask(*self.begin, program(written), OUTPUT, *undone(3))
            self.assertNotEqual(told[4], [0])
            self.assertEqual(told[5:], [out("xy"), [1], told_fields("xb"), [0], told_fields("ab"),
                                        [-7], told_fields("ab")])

    def test_not_by_a_refused_record(self):
        for refused in (record(), record("x" * 41), record([31]), record("a", "b", "c", "d", "e")):
            told = ask(*self.begin, refused, OUTPUT, *undone(3))
            self.assertEqual(told[4:], [[-1], out("xy"), [1], told_fields("xb"), [0], told_fields("ab"),
                                        [-7], told_fields("ab")])

    def test_it_fills_again(self):
        self.assertEqual(last(*self.begin, SHOW, edit(0, 1, "z"), UNDO), [0])
        self.assertEqual(last(*self.begin, record("c"), edit(0, 1, "z"), UNDO, FIELDS), told_fields("c"))


if __name__ == "__main__":
    unittest.main()
