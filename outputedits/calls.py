"""The calls that stand one behind another in one list of whole numbers."""

# For each call, by its number: how many whole numbers it has, and whether a row follows them.
SHAPES = (
    (0, True),    # program: p
    (0, True),    # record: record
    (0, False),   # output
    (0, False),   # fields
    (0, False),   # sources
    (1, False),   # piece: i
    (2, False),   # spread: field, i
    (2, True),    # could: i, j, u
    (2, True),    # edit: i, j, u
    (0, True),    # whole: o
    (1, False),   # free: i
    (0, False),   # undo
)


class Call:
    """One call: its number, its whole numbers, and its row (empty if it has none)."""

    def __init__(self, kind, numbers, row):
        self.kind = kind
        self.numbers = numbers
        self.row = row


def split_calls(calls):
    """The calls of a list, as Call objects in their order."""
    found = []
    place = 0
    while place < len(calls):
        kind = calls[place]
        shape = SHAPES[kind]
        begin = place + 1
        place = begin + shape[0]
        numbers = calls[begin:place]
        row = []
        if shape[1]:
            begin = place + 1
            place = begin + calls[place]
            row = calls[begin:place]
        found.append(Call(kind, numbers, row))
    return found
