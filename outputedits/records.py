"""Records: lists of 1 to 4 fields, each a list of at most 40 bytes from 32 to 126."""

MOST_FIELDS = 4
LONGEST_FIELD = 40
LOWEST_BYTE = 32
HIGHEST_BYTE = 126


def is_plain(text, longest):
    """Whether a text has at most so many bytes, each from 32 to 126."""
    if len(text) > longest:
        return False
    return all([LOWEST_BYTE <= byte <= HIGHEST_BYTE for byte in text])


def is_field(text):
    """Whether a text is a field."""
    return is_plain(text, LONGEST_FIELD)


def is_record(texts):
    """Whether a list of texts is a record."""
    if len(texts) == 0 or len(texts) > MOST_FIELDS:
        return False
    return all([is_field(text) for text in texts])


def split_texts(numbers):
    """The texts that stand one behind another, each as its length and its bytes."""
    texts = []
    place = 0
    while place < len(numbers):
        begin = place + 1
        place = begin + numbers[place]
        texts.append(numbers[begin:place])
    return texts


def told_record(record):
    """The record as it is answered: how many fields, then each one's length and bytes."""
    told = [len(record)]
    for field in record:
        told.append(len(field))
        told.extend(field)
    return told
