"""What the tests share: calls written as lists of numbers, and their answers taken apart."""

from outputedits.desk import answers

FAR = 10 ** 18


def text(written):
    """A text given as letters or as a list of bytes, as a list of bytes."""
    if isinstance(written, str):
        return list(written.encode("latin-1"))
    return list(written)


def row(numbers):
    return [len(numbers)] + list(numbers)


def program(written):
    return [0] + row(text(written))


def record(*fields):
    told = []
    for field in fields:
        told += row(text(field))
    return [1] + row(told)


OUTPUT = [2]
FIELDS = [3]
SOURCES = [4]


def piece(i):
    return [5, i]


def spread(field, i):
    return [6, field, i]


def could(i, j, u):
    return [7, i, j] + row(text(u))


def edit(i, j, u):
    return [8, i, j] + row(text(u))


def whole(o):
    return [9] + row(text(o))


def free(i):
    return [10, i]


UNDO = [11]


def apart(answered):
    """The numbers of each answer, out of the one list that is given back."""
    found = []
    place = 0
    while place < len(answered):
        count = answered[place]
        assert 0 <= count <= len(answered) - place - 1, answered
        found.append(answered[place + 1:place + 1 + count])
        place += 1 + count
    return found


def ask(*calls):
    """The answer of each of the calls on one new object."""
    found = apart(answers([number for call in calls for number in call]))
    assert len(found) == len(calls), found
    return found


def last(*calls):
    """The answer of the last one of the calls on one new object."""
    return ask(*calls)[-1]


def out(written):
    """The answer of output where it gives this text."""
    return [0] + text(written)


def told_fields(*fields):
    """The answer of fields for a record of these fields."""
    told = [len(fields)]
    for field in fields:
        told += row(text(field))
    return told
