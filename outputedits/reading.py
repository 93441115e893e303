"""Program texts read into pieces, or the first fault in them."""

from outputedits.classes import CLASSES, is_letter_or_digit
from outputedits.pieces import Constant, Part
from outputedits.positions import Border, FromEnd, FromStart

MOST_PIECES = 6
LONGEST_CONSTANT = 12

# The kinds of faults.
MISPLACED = 1
CONSTANT_LENGTH = 2
NUMBER = 3
TWO_EMPTY_CLASSES = 4
PIECE_TOO_MANY = 5


class Fault(Exception):
    """The first fault of a text that is no program text."""

    def __init__(self, kind, place):
        self.kind = kind
        self.place = place


class Reader:
    """A program text, and the place up to which it was read."""

    def __init__(self, text):
        self.text = text
        self.place = 0

    def stands_within(self, low, high):
        """Whether a byte follows and is one from low to high."""
        return self.place < len(self.text) and low <= self.text[self.place] <= high

    def stands(self, sign):
        """Whether this sign follows."""
        return self.stands_within(ord(sign), ord(sign))

    def skip(self, sign):
        """Read this sign if it follows, and tell whether it did."""
        if not self.stands(sign):
            return False
        self.place += 1
        return True

    def take(self, low, high):
        """Read a byte, which has to be one from low to high."""
        if not self.stands_within(low, high):
            raise Fault(MISPLACED, self.place)
        byte = self.text[self.place]
        self.place += 1
        return byte

    def need(self, sign):
        """Read this sign, which has to follow."""
        self.take(ord(sign), ord(sign))

    def need_end(self):
        """The text has to end here."""
        if self.place < len(self.text):
            raise Fault(MISPLACED, self.place)


def read_program(text):
    """The pieces of a program text (none for the empty program); or its Fault."""
    reader = Reader(text)
    pieces = []
    if not reader.skip("0"):
        pieces.append(read_piece(reader))
        while reader.skip("&"):
            if len(pieces) == MOST_PIECES:
                raise Fault(PIECE_TOO_MANY, reader.place)
            pieces.append(read_piece(reader))
    reader.need_end()
    return pieces


def read_piece(reader):
    if reader.stands('"'):
        return read_constant(reader)
    return read_part(reader)


def read_constant(reader):
    start = reader.place
    reader.need('"')
    text = []
    while True:
        byte = reader.take(32, 126)
        # A first " is the constant's end, unless a second one makes it a byte of the constant.
        if byte == ord('"') and not reader.skip('"'):
            break
        text.append(byte)
    if len(text) == 0 or len(text) > LONGEST_CONSTANT:
        raise Fault(CONSTANT_LENGTH, start)
    return Constant(text)


def read_part(reader):
    field = reader.take(ord("1"), ord("4")) - ord("0")
    reader.need("[")
    first = read_position(reader)
    reader.need(":")
    last = read_position(reader)
    reader.need("]")
    return Part(field, first, last, read_turn(reader))


def read_turn(reader):
    """The sign that turns a part's letters, or the empty text where none of them follows."""
    for sign in ("^", "_", "~"):
        if reader.skip(sign):
            return sign
    return ""


def read_position(reader):
    if reader.skip("+"):
        return FromStart(read_number(reader, 0, 60))
    if reader.skip("-"):
        return FromEnd(read_number(reader, 0, 60))
    return read_border(reader)


def read_border(reader):
    start = reader.place
    left = read_class(reader)
    reader.need("|")
    right = read_class(reader)
    if not left and not right:
        raise Fault(TWO_EMPTY_CLASSES, start)
    if reader.skip("+"):
        return Border(left, right, read_number(reader, 1, 40), False)
    reader.need("-")
    return Border(left, right, read_number(reader, 1, 40), True)


def read_class(reader):
    if reader.skip("'"):
        return read_quoted(reader)
    for sign, spans in CLASSES:
        if reader.skip(sign):
            return list(spans)
    raise Fault(MISPLACED, reader.place)


def read_quoted(reader):
    """The class of the one byte behind the sign ' ."""
    place = reader.place
    byte = reader.take(33, 126)
    if is_letter_or_digit(byte):
        raise Fault(MISPLACED, place)
    return [(byte, byte)]


def read_digit(reader):
    return reader.take(ord("0"), ord("9")) - ord("0")


def read_number(reader, low, high):
    """A position's number in decimal, which has to be one from low to high."""
    start = reader.place
    digits = [read_digit(reader)]
    while reader.stands_within(ord("0"), ord("9")):
        digits.append(read_digit(reader))
    if len(digits) > 2 or (len(digits) == 2 and digits[0] == 0):
        raise Fault(NUMBER, start)
    number = 0
    for digit in digits:
        number = number * 10 + digit
    if number < low or number > high:
        raise Fault(NUMBER, start)
    return number
