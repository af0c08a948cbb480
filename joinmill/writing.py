"""Writes a face or a unit as a row of words."""

from joinmill.errors import NoThing
from joinmill.things import NAME_SORTS, PART_SORTS, STATEMENT_FORMS, is_face, is_unit


def written(thing):
    if is_face(thing):
        return " ".join(face_words(thing))
    if is_unit(thing):
        return " ".join(unit_words(thing))
    raise NoThing("neither a face nor a unit")


def face_words(face):
    words = ["face", face[0]] + declared_words(face[1])
    for told in face[2]:
        words.extend(["deed", told[0], str(told[1])])
    return words + ["done"]


def unit_words(unit):
    words = ["unit", unit[0]]
    for take in unit[1]:
        # A take is kept as (unit, name), but written the other way round.
        words.extend(["take", take[1], "from", take[0]])
    words.extend(declared_words(unit[2]))
    for deed in unit[3]:
        words.extend(deed_words(deed))
    return words + ["do"] + block_words(unit[4]) + ["done"]


def declared_words(names):
    words = []
    for name in names:
        words.extend(["word", name])
    return words


def deed_words(deed):
    return ["deed", deed[0], "with"] + list(deed[1]) + ["own"] + list(deed[2]) + ["do"] + block_words(deed[3])


def block_words(block):
    words = []
    for statement in block:
        words.extend(statement_words(statement))
    return words + ["end"]


def statement_words(statement):
    words = [statement[0]]
    place = 1
    for step in STATEMENT_FORMS[statement[0]]:
        if step in PART_SORTS:
            words.extend(part_words(step, statement[place]))
            place += 1
        else:
            words.append(step)
    return words


def part_words(sort, part):
    if sort in NAME_SORTS:
        return [part]
    if sort == "EXPRESSION":
        return expression_words(part)
    if sort == "PARTS":
        return counted_words(part)
    return block_words(part)


def expression_words(expression):
    word = expression[0]
    if word == "number":
        return [str(expression[1])]
    if word == "name":
        return [expression[1]]
    if word == "call":
        return ["call", expression[1]] + counted_words(expression[2])
    return [word] + expression_words(expression[1]) + expression_words(expression[2])


def counted_words(parts):
    words = [str(len(parts))]
    for part in parts:
        words.extend(expression_words(part))
    return words
