"""The interface: how the calls and the answers stand in their lists."""

import unittest

from calling import (FAR, FIELDS, OUTPUT, SOURCES, UNDO, ask, could, edit, free, out, piece, program, record,
                     spread, text, told_fields, whole)
from outputedits.desk import answers

LINE = [call for calls in (
    program('1[+0:-0]&"""x"'), record("ab", ""), OUTPUT, FIELDS, SOURCES, piece(3), piece(-1), UNDO,
    spread(1, 1), spread(3, 0), could(0, 1, "cd"), could(3, 4, ""), edit(2, 2, "q"), edit(1, 0, ""),
    whole('zbq"x'), whole([31]), free(3), free(9), UNDO, UNDO, UNDO,
    program("1[+61:-0]"), record(), record("c"), OUTPUT) for call in calls]

TOLD = [
    1, 0,
    1, 0,
    5, 0, 97, 98, 34, 120,
    5, 2, 2, 97, 98, 0,
    9, 0, 1, 0, 1, 1, 0, 0, 0, 0,
    3, 0, 1, 1,
    1, -2,
    1, -7,
    2, 0, 1,
    1, -6,
    7, 0, 2, 3, 99, 100, 98, 0,
    1, -3,
    1, 0,
    1, -2,
    1, 0,
    1, -1,
    1, 0,
    1, -2,
    1, 1,
    1, 0,
    1, -7,
    2, 3, 3,
    1, -1,
    1, 0,
    4, 0, 99, 34, 120,
]


class Interface(unittest.TestCase):
    def test_counts_and_answers_stand_one_behind_another(self):
        self.assertEqual(answers(LINE), TOLD)

    def test_what_is_handed_in_is_as_it_was(self):
        calls = list(LINE)
        answers(calls)
        self.assertEqual(calls, LINE)

    def test_what_is_given_back_is_another_list_each_time(self):
        calls = list(LINE)
        first = answers(calls)
        first.clear()
        self.assertEqual(answers(calls), TOLD)
        self.assertEqual(calls, LINE)

    def test_nothing_is_kept_from_one_time_to_the_next(self):
        begin = [2, 3, 4, 11]
        told = answers(begin)
        self.assertEqual(told, [1, 0, 2, 1, 0, 1, 0, 1, -7])
        answers(LINE)
        self.assertEqual(answers(begin), told)

    def test_a_second_time_answers_as_the_first_one(self):
        self.assertEqual(answers(list(LINE)), answers(list(LINE)))

    def test_whole_numbers_alone_are_given_back(self):
        told = answers(LINE)
        self.assertIs(type(told), list)
        self.assertEqual({type(number) for number in told}, {int})

    def test_two_hundred_calls(self):
        begin = [record("x" * 40), program("&".join(["1[+0:-0]"] * 6))]
        told = ask(*begin, *[SOURCES] * 198)
        self.assertEqual(told[2:], [told[2]] * 198)
        self.assertEqual(len(told[2]), 481)

    def test_the_longest_rows(self):
        told = ask(record(*[""] * 16900), FIELDS)
        self.assertEqual(told, [[-1], [1, 0]])
        told = ask(program([255] * 10000), OUTPUT)
        self.assertEqual(told, [[-5], [0]])

    def test_calls_behind_other_calls_are_found(self):
        # These calls are all refused, or change nothing, so that what stands behind them is sure.
        others = [spread(9, -FAR), spread(1, 0), could(0, 1, "cd"), could(FAR, 0, ""), edit(-1, 0, "0"),
                  edit(1, 0, [2, 11]), whole([0]), whole([255] * 241), free(FAR), free(0)]
        begin = [record("ab", "c"), program('1[+0:-0]&"-"')]
        for other in others:
            with self.subTest(other=other):
                told = ask(*begin, other, OUTPUT, other, FIELDS, UNDO)
                self.assertEqual(told[3], out("ab-"))
                self.assertEqual(told[5:], [told_fields("ab", "c"), [-7]])


    def test_two_hundred_calls_of_all_kinds(self):
        # The letters of a field go round and back: each round is the same, but for the past that grows.
        begin = [record("abc", "d"), program('1[+0:-0]^&"-"&2[+0:-0]')]
        again = [edit(0, 3, "CAB"), whole("ABC-d"), could(4, 5, "xy"), spread(1, 0), free(3), UNDO, edit(9, 9, ""),
                 edit(0, 3, "ABC"), piece(4), FIELDS, OUTPUT]
        told = ask(*begin, *again * 18)
        for k in range(18):
            self.assertEqual(told[2 + 11 * k:13 + 11 * k], [
                [0], [0], [0] + told_fields("ABC", "xy"), [0, 0], [0], [2 * k + 1], [-2],
                [0], [0, 2, 0], told_fields("ABC", "d"), out("ABC-d")], k)

    def test_calls_with_the_longest_texts(self):
        long = [65] * 10000
        told = ask(record("ab"), program("1[+0:-0]"), edit(0, 1, long), OUTPUT)
        self.assertEqual(told[2:], [[-1], out("ab")])
        told = ask(record("ab"), program("1[+0:-0]"), could(-FAR, FAR, long), whole([65]), OUTPUT)
        self.assertEqual(told[2:], [[-2], [0], out("A")])
        told = ask(record("ab"), program("1[+0:-0]"), whole(long), OUTPUT)
        self.assertEqual(told[2:], [[-1], out("ab")])


class Example(unittest.TestCase):
    """The document's example, whole."""

    def test_example(self):
        told = ask(
            program('1[B|.+1:-0]^&", "&1[+0:+1]'), record("Ada Love"), OUTPUT, SOURCES, could(0, 4, "LOVELACE"), FIELDS,
            edit(1, 2, "I"), FIELDS, edit(4, 5, ";"), edit(0, 1, "l"), FIELDS, edit(6, 7, "B"), FIELDS,
            edit(0, 0, "X Y"), FIELDS, OUTPUT, free(0), UNDO, FIELDS)
        self.assertEqual(told, [
            [0],
            [0],
            out("LOVE, A"),
            [0, 1, 4, 1, 5, 1, 6, 1, 7, 0, 0, 0, 0, 1, 0],
            [0, 1, 12] + text("Ada LoveLACE"),
            told_fields("Ada Love"),
            [0],
            told_fields("Ada LIve"),
            [-3],
            [-9],
            told_fields("Ada LIve"),
            [0],
            told_fields("Bda LIve"),
            [0],
            told_fields("Bda X YLIve"),
            out("X YLIVE, B"),
            [0] + list(range(33, 97)) + list(range(123, 127)),
            [2],
            told_fields("Bda LIve"),
        ])

    def test_pieces_of_the_example(self):
        told = ask(program('1[B|.+1:-0]^&", "&1[+0:+1]'), record("Ada Love"), *[piece(i) for i in (0, 3, 4, 5, 6, 7)])
        self.assertEqual(told[2:], [[0, 0, 0], [0, 0, 3], [0, 1, 0], [0, 1, 1], [0, 2, 0], [-2]])


if __name__ == "__main__":
    unittest.main()
