"""A second reading of the document, by regular expressions, and made-up programs and records."""

import os
import re

CLASS_SETS = {"D": "[0-9]", "L": "[a-z]", "U": "[A-Z]", "A": "[A-Za-z]", "N": "[0-9A-Za-z]", "B": "[ ]"}
CLASS = r"(?:[DLUANB.]|'[!-/:-@\[-`{-~])"
FAR_NUMBER = r"(?:[0-9]|[1-5][0-9]|60)"
BORDER_NUMBER = r"(?:[1-9]|[1-3][0-9]|40)"
BORDER = r"(?!\.\|\.)(?:%s)\|(?:%s)[+-]%s" % (CLASS, CLASS, BORDER_NUMBER)
POSITION = r"(?:[+-]%s|%s)" % (FAR_NUMBER, BORDER)
PART = r"([1-4])\[(%s):(%s)\]([\^_~]?)" % (POSITION, POSITION)
CONSTANT = r'"((?:[ !#-~]|""){1,12})"'
PIECE = re.compile("%s|%s" % (PART, CONSTANT))
PROGRAM = re.compile("0|(?:{0})(?:&(?:{0})){{0,5}}".format("%s|%s" % (PART, CONSTANT)))
BORDER_PARTS = re.compile(r"(%s)\|(%s)([+-])([0-9]+)" % (CLASS, CLASS))


def class_set(sign):
    return CLASS_SETS.get(sign) or re.escape(sign[1])


def place_in(position, field):
    found = BORDER_PARTS.fullmatch(position)
    if found is None:
        k = int(position[1:])
        if k > len(field):
            return None
        return k if position[0] == "+" else len(field) - k
    left, right, way, count = found.groups()
    ending = "" if left == "." else "(?<=%s)(?!%s)" % (class_set(left), class_set(left))
    beginning = "" if right == "." else "(?<!%s)(?=%s)" % (class_set(right), class_set(right))
    places = [met.start() for met in re.finditer(ending + beginning, field)]
    if way == "-":
        places.reverse()
    return places[int(count) - 1] if int(count) <= len(places) else None


def pieces_of(written):
    """For each piece of a program text: (field, position, position, turn, constant)."""
    found = []
    place = 0
    while place < len(written) and written != "0":
        met = PIECE.match(written, place)
        found.append(met.groups())
        place = met.end() + 1
    return found


def model(written, fields):
    """The output's bytes with their piece and source, or the first piece that gives nothing."""
    shown = []
    for number, (field, first, second, turn, constant) in enumerate(pieces_of(written)):
        if constant is not None:
            given = constant.replace('""', '"')
            shown += [(c, number, k, 0, 0) for k, c in enumerate(given)]
            continue
        if int(field) > len(fields):
            return number
        source = fields[int(field) - 1]
        a = place_in(first, source)
        b = place_in(second, source)
        if a is None or b is None or a >= b:
            return number
        turns = {"": str, "^": str.upper, "_": str.lower, "~": str.capitalize}
        given = turns[turn](source[a:b])
        shown += [(c, number, k, int(field), a + k) for k, c in enumerate(given)]
    return shown


def joined(shown):
    return "".join(byte[0] for byte in shown)


def model_edit(written, fields, i, j, u):
    """The fields to which an edit leads, or its answer where it leads to none."""
    shown = model(written, fields)
    if isinstance(shown, int):
        return [1, shown]
    if not 0 <= i <= j <= len(shown):
        return [-2]
    if not re.fullmatch("[ -~]{0,240}", u):
        return [-1]
    output = joined(shown)
    wanted = output[:i] + u + output[j:]
    x = output[i:j]
    m = len(os.path.commonprefix([x, u]))
    n = len(os.path.commonprefix([x[m:][::-1], u[m:][::-1]]))
    answer = [-3]
    for number in sorted({byte[1] for byte in shown}):
        places = [k for k, byte in enumerate(shown) if byte[1] == number]
        field, a = shown[places[0]][3:]
        if field == 0 or i < places[0] or j > places[-1] + 1:
            continue
        answer = [-9]
        source = fields[field - 1]
        ahead, y, behind = (source[:a + i - places[0]], source[a + i - places[0]:a + j - places[0]],
                            source[a + j - places[0]:])
        changed = ahead + y[:m] + u[m:len(u) - n] + y[len(y) - n:] + behind
        others = fields[:field - 1] + [changed] + fields[field:]
        again = model(written, others)
        if len(changed) <= 40 and not isinstance(again, int) and joined(again) == wanted:
            return others
    return answer


def model_whole(written, fields, o):
    """As model_edit, for the edit that makes o of the output."""
    if not re.fullmatch("[ -~]{0,240}", o):
        return [-1]
    shown = model(written, fields)
    if isinstance(shown, int):
        return [1, shown]
    output = joined(shown)
    m = len(os.path.commonprefix([output, o]))
    n = len(os.path.commonprefix([output[m:][::-1], o[m:][::-1]]))
    return model_edit(written, fields, m, len(output) - n, o[m:len(o) - n])


def is_refused(led):
    return len(led) > 0 and isinstance(led[0], int)


def model_free(written, fields, i):
    shown = model(written, fields)
    if isinstance(shown, int):
        return [1, shown]
    if not 0 <= i < len(shown):
        return [-2]
    return [0] + [c for c in range(32, 127) if not is_refused(model_edit(written, fields, i, i + 1, chr(c)))]


def model_spread(written, fields, field, i):
    shown = model(written, fields)
    if isinstance(shown, int):
        return [1, shown]
    if field not in range(1, len(fields) + 1):
        return [-6]
    if i not in range(len(fields[field - 1])):
        return [-2]
    return [0] + [k for k, byte in enumerate(shown) if byte[3:] == (field, i)]


def made_class(chance):
    return chance.choice(["D", "L", "U", "A", "N", "B", ".", ".", "'-", "',", "''", "'|"])


def made_position(chance):
    way = chance.choice("+-")
    if chance.random() < 0.4:
        return way + str(chance.choice([0, 0, 1, 2, 3, 5, 9, 40, 60]))
    left, right = made_class(chance), made_class(chance)
    if left == right == ".":
        right = "L"
    return "%s|%s%s%d" % (left, right, way, chance.choice([1, 1, 1, 2, 3, 40]))


def made_piece(chance):
    if chance.random() < 0.25:
        return '"%s"' % "".join(chance.choice(["a", " ", '""', "-", "Z", "0"]) for _ in range(chance.randint(1, 12)))
    return "%d[%s:%s]%s" % (chance.choice([1, 1, 1, 2, 3, 4]), made_position(chance), made_position(chance),
                            chance.choice(["", "", "^", "_", "~"]))


def made_program(chance):
    return "&".join(made_piece(chance) for _ in range(chance.choice([1, 1, 1, 2, 2, 3, 6])))


def made_record(chance):
    return ["".join(chance.choice("abYZ19  -,'|") for _ in range(chance.choice([0, 3, 8, 20, 40])))
            for _ in range(chance.randint(1, 4))]


def spoiled(chance, written):
    """The program text with a byte put in, taken out or replaced, or cut short."""
    place = chance.randrange(len(written) + 1)
    byte = chance.choice("01456[]:+-|&\"^_~DLUANB.' ax\x1f\x7f\xff")
    return chance.choice([
        written[:place] + byte + written[place:],
        written[:place] + written[place + 1:],
        written[:place] + byte + written[place + 1:],
        written[:place],
        written + "&" + written,
    ])
