"""Edits of an output, and the records into which they are led back."""

from outputedits.pieces import NoOutput, all_given, joined
from outputedits.records import HIGHEST_BYTE, LOWEST_BYTE, is_plain, is_record

LONGEST_TEXT = 240


class NoSuchPlace(Exception):
    """The output has no such places, or no such byte."""


class NoSuchText(Exception):
    """A text has more than 240 bytes, or one that isn't from 32 to 126."""


class NoPart(Exception):
    """There is no part by which an edit may be led back."""


class NotLedBack(Exception):
    """An edit is led back by none of the parts by which it may be."""


class Edit:
    """The output's bytes from the place start to the place end are replaced by the text."""

    def __init__(self, start, end, text):
        self.start = start
        self.end = end
        self.text = text


class Shown:
    """A record as a program shows it: what each piece gives, and the output; or NoOutput."""

    def __init__(self, program, record):
        self.program = program
        self.record = record
        self.givens = all_given(program, record)
        self.output = joined(self.givens)


def need_text(text):
    """The text has to be one that an edit may put in; or NoSuchText."""
    if not is_plain(text, LONGEST_TEXT):
        raise NoSuchText()


def common_beginning(left, right):
    """How many bytes two texts have in common at the beginning."""
    most = min(len(left), len(right))
    count = 0
    while count < most and left[count] == right[count]:
        count += 1
    return count


def common_end(left, right, first):
    """How many bytes two texts have in common at the end, behind the first ones of both."""
    most = min(len(left), len(right)) - first
    count = 0
    while count < most and left[len(left) - 1 - count] == right[len(right) - 1 - count]:
        count += 1
    return count


def narrowed(output, edit):
    """The edit without what the replaced bytes and its text have in common at both ends."""
    old = output[edit.start:edit.end]
    first = common_beginning(old, edit.text)
    final = common_end(old, edit.text, first)
    return Edit(edit.start + first, edit.end - final, edit.text[first:len(edit.text) - final])


def holders(shown, edit):
    """The parts by which the edit may be led back: what each gives, and where that begins."""
    found = []
    begin = 0
    for given in shown.givens:
        end = begin + len(given.text)
        if given.field > 0 and begin <= edit.start and edit.end <= end:
            found.append((given, begin))
        begin = end
    return found


def changed_record(record, given, begin, edit):
    """The record with the edit done in the field from which the given text comes."""
    field = record[given.field - 1]
    start = given.start + edit.start - begin
    end = given.start + edit.end - begin
    changed = list(record)
    changed[given.field - 1] = field[:start] + edit.text + field[end:]
    return changed


def gives(program, record, wanted):
    """Whether the program gives just the wanted output on the record."""
    try:
        return joined(all_given(program, record)) == wanted
    except NoOutput:
        return False


def led_back(shown, edit):
    """The record to which the edit leads; or the error that tells why it is refused."""
    output = shown.output
    if not 0 <= edit.start <= edit.end <= len(output):
        raise NoSuchPlace()
    need_text(edit.text)
    parts = holders(shown, edit)
    if len(parts) == 0:
        raise NoPart()
    wanted = output[:edit.start] + edit.text + output[edit.end:]
    # What stays in the output stays as it is in the field, even if the program turned it.
    narrow = narrowed(output, edit)
    for given, begin in parts:
        record = changed_record(shown.record, given, begin, narrow)
        if is_record(record) and gives(shown.program, record, wanted):
            return record
    raise NotLedBack()


def is_led_back(shown, edit):
    """Whether the edit leads to a record."""
    try:
        led_back(shown, edit)
    except (NoPart, NotLedBack):
        return False
    return True


def whole_edit(shown, text):
    """The edit that makes the text of the output, by replacing as little of it as can be."""
    return narrowed(shown.output, Edit(0, len(shown.output), text))


def free_bytes(shown, place):
    """The bytes that could stand in the place of the output's byte behind the place; or NoSuchPlace."""
    found = []
    # Where there is no such byte, the first edit that is tried tells it.
    for byte in range(LOWEST_BYTE, HIGHEST_BYTE + 1):
        if is_led_back(shown, Edit(place, place + 1, [byte])):
            found.append(byte)
    return found
