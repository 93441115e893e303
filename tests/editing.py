"""What the tests of edits share: one edit, looked at from all sides."""

import unittest

from calling import FIELDS, OUTPUT, UNDO, ask, could, edit, out, program, record, told_fields


class EditCase(unittest.TestCase):
    def asked(self, call, fields, written):
        """What a call answers, then the output, the fields, undo and the fields behind it."""
        return ask(record(*fields), program(written), call, OUTPUT, FIELDS, UNDO, FIELDS)[2:]

    def leads(self, call, fields, written, expected, output):
        """The call changes the record to the expected fields, and undo takes that back."""
        with self.subTest(call=call, fields=fields, written=written):
            self.assertEqual(self.asked(call, fields, written),
                             [[0], out(output), told_fields(*expected), [0], told_fields(*fields)])

    def leaves(self, call, fields, written, answer):
        """The call answers so, and neither the record nor the past is changed."""
        with self.subTest(call=call, fields=fields, written=written):
            told = self.asked(call, fields, written)
            self.assertEqual(told[0], answer)
            self.assertEqual(told[2:], [told_fields(*fields), [-7], told_fields(*fields)])

    def edited(self, fields, written, change, expected, output):
        """The edit is led back; fields and expected: a list of texts, or the one field's text."""
        fields = [fields] if isinstance(fields, str) else fields
        expected = [expected] if isinstance(expected, str) else expected
        self.leads(edit(*change), fields, written, expected, output)
        self.leaves(could(*change), fields, written, [0] + told_fields(*expected))

    def refused(self, fields, written, change, refusal):
        fields = [fields] if isinstance(fields, str) else fields
        self.leaves(edit(*change), fields, written, [refusal])
        self.leaves(could(*change), fields, written, [refusal])
