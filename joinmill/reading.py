"""Reads the text of a face or a unit."""

from joinmill.errors import NoText
from joinmill.things import (
    GREATEST_NUMBER, MOST_AROUND, MOST_PARTS, NAME_SORTS, PART_SORTS, SIGNS, STATEMENT_FORMS, is_face, is_name, is_unit,
)


class WordRow:
    # Cut at every single blank: a blank too many leaves an empty word, and no writing has one.
    def __init__(self, text):
        self.words = text.split(" ")
        self.place = 0

    # Behind the last word an empty one is seen, which is refused wherever it stands.
    def ahead(self):
        return self.words[self.place] if self.place < len(self.words) else ""

    def taken(self):
        word = self.ahead()
        self.place += 1
        return word

    def skip(self, kept_word):
        word = self.taken()
        if word != kept_word:
            raise NoText(f"{word!r} stands where {kept_word!r} must stand")

    def is_over(self):
        return self.place == len(self.words)


def read(text):
    row = WordRow(text)
    thing = read_face(row) if row.ahead() == "face" else read_unit(row)
    if not row.is_over():
        raise NoText("there are words behind the end")
    # Going through the words looked at their form alone; how many there may be, which must be unlike and how great
    # numbers may be is asked of the whole.
    if not is_face(thing) and not is_unit(thing):
        raise NoText("this would be no face and no unit")
    return thing


def read_face(row):
    row.skip("face")
    name = read_name(row)
    words = read_declared(row)
    deeds = []
    while row.ahead() == "deed":
        row.skip("deed")
        told = read_name(row)
        deeds.append((told, read_number(row)))
    row.skip("done")
    return (name, words, tuple(deeds))


def read_unit(row):
    row.skip("unit")
    name = read_name(row)
    takes = []
    while row.ahead() == "take":
        takes.append(read_take(row))
    words = read_declared(row)
    deeds = []
    while row.ahead() == "deed":
        deeds.append(read_deed(row))
    row.skip("do")
    block = read_block(row, 0)
    row.skip("done")
    return (name, tuple(takes), words, tuple(deeds), block)


def read_take(row):
    row.skip("take")
    name = read_name(row)
    row.skip("from")
    return (read_name(row), name)


def read_declared(row):
    names = []
    while row.ahead() == "word":
        row.skip("word")
        names.append(read_name(row))
    return tuple(names)


def read_deed(row):
    row.skip("deed")
    name = read_name(row)
    row.skip("with")
    params = read_names_until(row, "own")
    owns = read_names_until(row, "do")
    return (name, params, owns, read_block(row, 0))


def read_names_until(row, kept_word):
    names = []
    while row.ahead() != kept_word:
        names.append(read_name(row))
    row.skip(kept_word)
    return tuple(names)


def read_block(row, around):
    statements = []
    while row.ahead() != "end":
        statements.append(read_statement(row, around))
    row.skip("end")
    return tuple(statements)


def read_statement(row, around):
    refuse_too_deep(around)
    word = row.taken()
    if word not in STATEMENT_FORMS:
        raise NoText(f"{word!r} begins no statement")
    parts = [word]
    for step in STATEMENT_FORMS[word]:
        if step in PART_SORTS:
            parts.append(read_part(row, step, around + 1))
        else:
            row.skip(step)
    return tuple(parts)


def read_part(row, sort, around):
    if sort in NAME_SORTS:
        return read_name(row)
    if sort == "EXPRESSION":
        return read_expression(row, around)
    if sort == "PARTS":
        return read_parts(row, around)
    return read_block(row, around)


def read_expression(row, around):
    refuse_too_deep(around)
    word = row.ahead()
    if is_name(word):
        return ("name", read_name(row))
    if word == "call":
        row.skip("call")
        name = read_name(row)
        return ("call", name, read_parts(row, around + 1))
    if word in SIGNS:
        row.skip(word)
        left = read_expression(row, around + 1)
        right = read_expression(row, around + 1)
        return (word, left, right)
    return ("number", read_number(row))


# Asked on the way down, not of the whole alone: a text may be nested deeper than Python's own calls may be.
def refuse_too_deep(around):
    if around > MOST_AROUND:
        raise NoText("nested too deep")


def read_parts(row, around):
    count = read_number(row)
    if not 0 <= count <= MOST_PARTS:
        raise NoText(f"{count} is no count of parts")
    return tuple([read_expression(row, around) for place in range(count)])


def read_name(row):
    word = row.taken()
    if not is_name(word):
        raise NoText(f"{word!r} is no name")
    return word


def read_number(row):
    word = row.taken()
    figures = word[1:] if word.startswith("-") else word
    if not are_figures(figures) or (figures.startswith("0") and word != "0"):
        raise NoText(f"{word!r} is no number")
    return int(word)


# The length is bounded ahead of int, which does not take rows of thousands of figures.
def are_figures(text):
    if not 1 <= len(text) <= len(str(GREATEST_NUMBER)):
        return False
    return all(["0" <= sign <= "9" for sign in text])
