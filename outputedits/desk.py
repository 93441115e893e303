"""The object that holds a program, a record and a past, and what the calls on it answer."""

from outputedits.calls import split_calls
from outputedits.edits import Edit, NoPart, NoSuchPlace, NoSuchText, NotLedBack, Shown
from outputedits.edits import free_bytes, led_back, need_text, whole_edit
from outputedits.pieces import NoOutput, all_given, joined
from outputedits.reading import Fault, read_program
from outputedits.records import is_record, split_texts, told_record

LONGEST_PROGRAM = 1000
MOST_PAST = 50


class Desk:
    """A program (its pieces), a record (its fields), and the past records, the latest one last."""

    def __init__(self):
        self.program = []
        self.record = [[]]
        self.past = []


def answer_program(desk, call):
    if len(call.row) > LONGEST_PROGRAM:
        return [-5]
    try:
        program = read_program(call.row)
    except Fault as fault:
        return [fault.kind, fault.place]
    desk.program = program
    desk.past = []
    return [0]


def answer_record(desk, call):
    record = split_texts(call.row)
    if not is_record(record):
        return [-1]
    desk.record = record
    desk.past = []
    return [0]


def answer_output(desk, call):
    return [0] + joined(all_given(desk.program, desk.record))


def answer_fields(desk, call):
    return told_record(desk.record)


def answer_sources(desk, call):
    answered = [0]
    for given in all_given(desk.program, desk.record):
        for k in range(len(given.text)):
            answered.extend(given.source(k))
    return answered


def answer_piece(desk, call):
    before = call.numbers[0]
    givens = all_given(desk.program, desk.record)
    if before < 0:
        return [-2]
    for number, given in enumerate(givens):
        if before < len(given.text):
            return [0, number, before]
        before -= len(given.text)
    return [-2]


def answer_spread(desk, call):
    field = call.numbers[0]
    place = call.numbers[1]
    givens = all_given(desk.program, desk.record)
    if field < 1 or field > len(desk.record):
        return [-6]
    if place < 0 or place >= len(desk.record[field - 1]):
        return [-2]
    sources = []
    for given in givens:
        sources.extend([given.source(k) for k in range(len(given.text))])
    return [0] + [number for number, source in enumerate(sources) if source == [field, place]]


def edited_record(desk, call):
    """The record to which the edit leads that a call of could or edit tells."""
    edit = Edit(call.numbers[0], call.numbers[1], call.row)
    return led_back(Shown(desk.program, desk.record), edit)


def change_record(desk, record):
    """Let this be the record from now on, and put the one that was it behind the past."""
    desk.past.append(desk.record)
    if len(desk.past) > MOST_PAST:
        desk.past.pop(0)
    desk.record = record


def answer_could(desk, call):
    return [0] + told_record(edited_record(desk, call))


def answer_edit(desk, call):
    change_record(desk, edited_record(desk, call))
    return [0]


def answer_whole(desk, call):
    # A wrong text is told even where there is no output, so it is looked at first.
    need_text(call.row)
    shown = Shown(desk.program, desk.record)
    change_record(desk, led_back(shown, whole_edit(shown, call.row)))
    return [0]


def answer_free(desk, call):
    return [0] + free_bytes(Shown(desk.program, desk.record), call.numbers[0])


def answer_undo(desk, call):
    if len(desk.past) == 0:
        return [-7]
    desk.record = desk.past.pop()
    return [len(desk.past)]


ANSWERERS = {
    0: answer_program,
    1: answer_record,
    2: answer_output,
    3: answer_fields,
    4: answer_sources,
    5: answer_piece,
    6: answer_spread,
    7: answer_could,
    8: answer_edit,
    9: answer_whole,
    10: answer_free,
    11: answer_undo,
}


def answer_call(desk, call):
    """What one call on the desk answers, as a list of numbers."""
    try:
        return ANSWERERS[call.kind](desk, call)
    except NoOutput as lack:
        return [1, lack.piece]
    except NoSuchText:
        return [-1]
    except NoSuchPlace:
        return [-2]
    except NoPart:
        return [-3]
    except NotLedBack:
        return [-9]


def answers(calls):
    """What each of the calls on one new object answers: how many numbers, then these."""
    desk = Desk()
    found = []
    for call in split_calls(calls):
        answered = answer_call(desk, call)
        found.append(len(answered))
        found.extend(answered)
    return found
