"""The object that holds a program, a record and a past, and what the calls on it answer."""

from outputedits.calls import split_calls
from outputedits.pieces import NoOutput, all_given
from outputedits.reading import Fault, read_program
from outputedits.records import is_record, split_texts, told_record

LONGEST_PROGRAM = 1000


class Desk:
    """A program (its pieces), a record (its fields), and the past records, the latest one last."""

    def __init__(self):
        self.program = []
        self.record = [[]]
        self.past = []


def answer_program(desk, call):
    if len(call.row) > LONGEST_PROGRAM:
        return [-5]
    try:
        program = read_program(call.row)
    except Fault as fault:
        return [fault.kind, fault.place]
    desk.program = program
    desk.past = []
    return [0]


def answer_record(desk, call):
    record = split_texts(call.row)
    if not is_record(record):
        return [-1]
    desk.record = record
    desk.past = []
    return [0]


def answer_output(desk, call):
    answered = [0]
    for given in all_given(desk.program, desk.record):
        answered.extend(given.text)
    return answered


def answer_fields(desk, call):
    return told_record(desk.record)


def answer_sources(desk, call):
    answered = [0]
    for given in all_given(desk.program, desk.record):
        for k in range(len(given.text)):
            answered.extend(given.source(k))
    return answered


def answer_piece(desk, call):
    before = call.numbers[0]
    givens = all_given(desk.program, desk.record)
    if before < 0:
        return [-2]
    for number, given in enumerate(givens):
        if before < len(given.text):
            return [0, number, before]
        before -= len(given.text)
    return [-2]


def answer_undo(desk, call):
    if len(desk.past) == 0:
        return [-7]
    desk.record = desk.past.pop()
    return [len(desk.past)]


# The calls 6 to 10 are not built yet; what they carry is passed over, and they answer no numbers.
ANSWERERS = {
    0: answer_program,
    1: answer_record,
    2: answer_output,
    3: answer_fields,
    4: answer_sources,
    5: answer_piece,
    11: answer_undo,
}


def answer_call(desk, call):
    """What one call on the desk answers, as a list of numbers."""
    if call.kind not in ANSWERERS:
        return []
    try:
        return ANSWERERS[call.kind](desk, call)
    except NoOutput as lack:
        return [1, lack.piece]


def answers(calls):
    """What each of the calls on one new object answers: how many numbers, then these."""
    desk = Desk()
    found = []
    for call in split_calls(calls):
        answered = answer_call(desk, call)
        found.append(len(answered))
        found.extend(answered)
    return found
