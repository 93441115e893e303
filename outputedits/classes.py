"""Classes of bytes, and where they begin, end and border on each other in a text.

A class is a list of spans, each the first and the last byte of it; the empty class has no span.
"""

LETTERS_AND_DIGITS = ((48, 57), (65, 90), (97, 122))

CLASSES = (
    ("D", ((48, 57),)),
    ("L", ((97, 122),)),
    ("U", ((65, 90),)),
    ("A", ((65, 90), (97, 122))),
    ("N", ((48, 57), (65, 90), (97, 122))),
    ("B", ((32, 32),)),
    (".", ()),
)


def in_spans(byte, spans):
    """Whether a byte is in one of the spans."""
    for low, high in spans:
        if low <= byte <= high:
            return True
    return False


def is_letter_or_digit(byte):
    return in_spans(byte, list(LETTERS_AND_DIGITS))


def stands_behind(text, place, spans):
    """Whether there is a byte right behind the place, and it is in the class."""
    return 0 <= place < len(text) and in_spans(text[place], spans)


def begins(text, place, spans):
    """Whether the class begins at the place."""
    if not spans:
        return True
    return stands_behind(text, place, spans) and not stands_behind(text, place - 1, spans)


def ends(text, place, spans):
    """Whether the class ends at the place."""
    if not spans:
        return True
    return stands_behind(text, place - 1, spans) and not stands_behind(text, place, spans)


def borders(text, left, right):
    """The places at which the class left ends and the class right begins, from the left."""
    found = []
    for place in range(len(text) + 1):
        if ends(text, place, left) and begins(text, place, right):
            found.append(place)
    return found
