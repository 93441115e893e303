"""Pieces of a program, and what they give on a record (a list of fields)."""


class Given:
    """The text that a piece gave, and the field and the place in it from which it comes.

    The field 0 is told of a text that comes from nowhere.
    """

    def __init__(self, text, field, start):
        self.text = text
        self.field = field
        self.start = start

    def source(self, k):
        """From where the text's byte k (from 0) comes: a field and a place in it, or 0 and 0."""
        if self.field == 0:
            return [0, 0]
        return [self.field, self.start + k]


class NoOutput(Exception):
    """A program gives nothing on a record; piece: the first piece (from 0) that gives nothing."""

    def __init__(self, piece):
        self.piece = piece


class Constant:
    """A piece that gives the same bytes on every record."""

    def __init__(self, text):
        self.text = text

    def given_on(self, record):
        return Given(list(self.text), 0, 0)


class Part:
    """A piece that gives a field's bytes between two positions, turned as its sign tells."""

    def __init__(self, field, first, last, turn):
        self.field = field
        self.first = first
        self.last = last
        self.turn = turn

    def given_on(self, record):
        """What the part gives, or None for nothing."""
        if self.field > len(record):
            return None
        text = record[self.field - 1]
        start = self.first.place_in(text)
        end = self.last.place_in(text)
        if start is None or end is None or start >= end:
            return None
        return Given(turned(text[start:end], self.turn), self.field, start)


def capital(byte):
    """The byte, a small letter turned to its capital."""
    return byte - 32 if 97 <= byte <= 122 else byte


def small(byte):
    """The byte, a capital turned to its small letter."""
    return byte + 32 if 65 <= byte <= 90 else byte


def turned(text, turn):
    """The text with its letters turned as the sign tells (no sign: as it is)."""
    if turn == "^":
        return [capital(byte) for byte in text]
    if turn == "_":
        return [small(byte) for byte in text]
    if turn == "~":
        return [capital(byte) for byte in text[:1]] + [small(byte) for byte in text[1:]]
    return text


def all_given(program, record):
    """What each piece of the program gives on the record, in order; or NoOutput."""
    found = []
    for number, piece in enumerate(program):
        given = piece.given_on(record)
        if given is None:
            raise NoOutput(number)
        found.append(given)
    return found


def joined(givens):
    """The texts that the pieces gave, one behind another."""
    text = []
    for given in givens:
        text.extend(given.text)
    return text
