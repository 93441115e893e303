"""Promise 12: undo, and the past that the object holds."""

import unittest

from calling import FIELDS, OUTPUT, UNDO, ask, out, program, record, text, told_fields
from outputedits.calls import split_calls
from outputedits.desk import Desk, answer_call


class EmptyPast(unittest.TestCase):
    def test_at_the_beginning(self):
        self.assertEqual(ask(UNDO, UNDO), [[-7], [-7]])

    def test_program_and_record_are_not_undone(self):
        told = ask(record("a"), program("1[+0:-0]"), record("b"), UNDO, FIELDS, OUTPUT)
        self.assertEqual(told[3:], [[-7], told_fields("b"), out("b")])

    def test_where_there_is_no_output(self):
        self.assertEqual(ask(program("2[+0:-0]"), UNDO), [[0], [-7]])


class Past(unittest.TestCase):
    """No call puts a record behind the past yet, so these tests put them there by hand."""

    def setUp(self):
        self.desk = Desk()
        self.desk.past = [[text("one")], [text("two"), text("2")]]

    def call(self, numbers):
        return answer_call(self.desk, split_calls(numbers)[0])

    def test_the_last_record_is_taken_out(self):
        self.assertEqual(self.call(UNDO), [1])
        self.assertEqual(self.call(FIELDS), told_fields("two", "2"))
        self.assertEqual(self.call(UNDO), [0])
        self.assertEqual(self.call(FIELDS), told_fields("one"))
        self.assertEqual(self.call(UNDO), [-7])
        self.assertEqual(self.call(FIELDS), told_fields("one"))

    def test_program_empties_the_past(self):
        self.assertEqual(self.call(program("0")), [0])
        self.assertEqual(self.call(UNDO), [-7])

    def test_record_empties_the_past(self):
        self.assertEqual(self.call(record("a")), [0])
        self.assertEqual(self.call(UNDO), [-7])

    def test_a_fault_or_a_refusal_leaves_the_past(self):
        self.assertEqual(self.call(program("x")), [1, 0])
        self.assertEqual(self.call(program("0" * 1001)), [-5])
        self.assertEqual(self.call(record()), [-1])
        self.assertEqual(self.call(UNDO), [1])


if __name__ == "__main__":
    unittest.main()
