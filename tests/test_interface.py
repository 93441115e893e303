"""The interface: how the calls and the answers stand in their lists."""

import unittest

from calling import (FAR, FIELDS, OUTPUT, SOURCES, UNDO, ask, could, edit, free, out, piece, program, record,
                     spread, told_fields, whole)
from outputedits.desk import answers

LINE = [call for calls in (
    program('1[+0:-0]&"""x"'), record("ab", ""), OUTPUT, FIELDS, SOURCES, piece(3), piece(-1), UNDO,
    program("1[+61:-0]"), record(), record("c"), OUTPUT) for call in calls]

TOLD = [
    1, 0,
    1, 0,
    5, 0, 97, 98, 34, 120,
    5, 2, 2, 97, 98, 0,
    9, 0, 1, 0, 1, 1, 0, 0, 0, 0,
    3, 0, 1, 1,
    1, -2,
    1, -7,
    2, 3, 3,
    1, -1,
    1, 0,
    4, 0, 99, 34, 120,
]


class Interface(unittest.TestCase):
    def test_counts_and_answers_stand_one_behind_another(self):
        self.assertEqual(answers(LINE), TOLD)

    def test_what_is_handed_in_is_as_it_was(self):
        calls = list(LINE)
        answers(calls)
        self.assertEqual(calls, LINE)

    def test_what_is_given_back_is_another_list_each_time(self):
        calls = list(LINE)
        first = answers(calls)
        first.clear()
        self.assertEqual(answers(calls), TOLD)
        self.assertEqual(calls, LINE)

    def test_nothing_is_kept_from_one_time_to_the_next(self):
        begin = [2, 3, 4, 11]
        told = answers(begin)
        self.assertEqual(told, [1, 0, 2, 1, 0, 1, 0, 1, -7])
        answers(LINE)
        self.assertEqual(answers(begin), told)

    def test_a_second_time_answers_as_the_first_one(self):
        self.assertEqual(answers(list(LINE)), answers(list(LINE)))

    def test_whole_numbers_alone_are_given_back(self):
        told = answers(LINE)
        self.assertIs(type(told), list)
        self.assertEqual({type(number) for number in told}, {int})

    def test_two_hundred_calls(self):
        begin = [record("x" * 40), program("&".join(["1[+0:-0]"] * 6))]
        told = ask(*begin, *[SOURCES] * 198)
        self.assertEqual(told[2:], [told[2]] * 198)
        self.assertEqual(len(told[2]), 481)

    def test_the_longest_rows(self):
        told = ask(record(*[""] * 16900), FIELDS)
        self.assertEqual(told, [[-1], [1, 0]])
        told = ask(program([255] * 10000), OUTPUT)
        self.assertEqual(told, [[-5], [0]])

    def test_calls_behind_other_calls_are_found(self):
        # These calls are all refused, or change nothing, so that what stands behind them is sure.
        others = [spread(9, -FAR), spread(1, 0), could(0, 1, "cd"), could(FAR, 0, ""), edit(-1, 0, "0"),
                  edit(1, 0, [2, 11]), whole([0]), whole([255] * 241), free(FAR), free(0)]
        begin = [record("ab", "c"), program('1[+0:-0]&"-"')]
        for other in others:
            with self.subTest(other=other):
                told = ask(*begin, other, OUTPUT, other, FIELDS, UNDO)
                self.assertEqual(told[3], out("ab-"))
                self.assertEqual(told[5:], [told_fields("ab", "c"), [-7]])


class Example(unittest.TestCase):
    """The document's example, as far as its calls are built."""

    def test_example(self):
        told = ask(program('1[B|.+1:-0]^&", "&1[+0:+1]'), record("Ada Love"), OUTPUT, SOURCES, FIELDS,
                   piece(0), piece(3), piece(4), piece(5), piece(6), piece(7), UNDO)
        self.assertEqual(told, [
            [0],
            [0],
            out("LOVE, A"),
            [0, 1, 4, 1, 5, 1, 6, 1, 7, 0, 0, 0, 0, 1, 0],
            told_fields("Ada Love"),
            [0, 0, 0],
            [0, 0, 3],
            [0, 1, 0],
            [0, 1, 1],
            [0, 2, 0],
            [-2],
            [-7],
        ])

    def test_the_records_that_the_example_leads_to(self):
        show = program('1[B|.+1:-0]^&", "&1[+0:+1]')
        told = ask(show, record("Ada LoveLACE"), OUTPUT, record("Bda X YLIve"), OUTPUT)
        self.assertEqual(told[2::2], [out("LOVELACE, A"), out("X YLIVE, B")])


if __name__ == "__main__":
    unittest.main()
