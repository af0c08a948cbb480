"""Tells of any thing whether it is a name, a number, an expression, a block, a deed, a face or a unit."""

KEPT_WORDS = (
    "face", "unit", "take", "from", "word", "deed", "with", "own", "do", "done", "let", "be", "if", "then", "else",
    "while", "give", "tell", "get", "new", "hand", "to", "await", "call", "and", "end",
)
SIGNS = ("+", "-", "*", "<", "=")

GREATEST_NUMBER = 999999
MOST_LETTERS = 8
MOST_PARTS = 4
MOST_PARAMS = 4
MOST_OWNS = 6
MOST_WORDS = 6
MOST_DEEDS = 6
MOST_TAKES = 8
# In how many others an expression or a statement may lie.
MOST_AROUND = 12

# Checking, writing, reading and asking what names mean all go by this one table, so that they can't part. It tells what
# is written behind a statement's first word: a word of PART_SORTS stands for the next part of the statement's tuple,
# any other for itself. WORD and DEED are both names; which of the two a name means is no matter of form.
NAME_SORTS = ("WORD", "DEED")
PART_SORTS = ("WORD", "DEED", "EXPRESSION", "PARTS", "BLOCK")
STATEMENT_FORMS = {
    "let": ("WORD", "be", "EXPRESSION"),
    "if": ("EXPRESSION", "then", "BLOCK", "else", "BLOCK"),
    "while": ("EXPRESSION", "do", "BLOCK"),
    "do": ("DEED", "PARTS"),
    "give": ("EXPRESSION",),
    "tell": ("EXPRESSION",),
    "get": ("WORD",),
    "new": ("WORD", "deed", "DEED"),
    "hand": ("WORD", "to", "EXPRESSION"),
    "await": ("WORD", "and", "WORD"),
}


def is_whole(thing):
    return isinstance(thing, int) and not isinstance(thing, bool)


def is_number(thing):
    return is_whole(thing) and -GREATEST_NUMBER <= thing <= GREATEST_NUMBER


def is_name(thing):
    if not isinstance(thing, str) or not 1 <= len(thing) <= MOST_LETTERS:
        return False
    return all(["a" <= letter <= "z" for letter in thing]) and thing not in KEPT_WORDS


def is_row(thing, length):
    return isinstance(thing, tuple) and len(thing) == length


# Stops at the first item that does not hold: a thing whose parts are shared could else be walked a great many times.
def is_row_of(thing, most, holds):
    if not isinstance(thing, tuple) or len(thing) > most:
        return False
    for item in thing:
        if not holds(item):
            return False
    return True


def is_row_of_names(thing, most):
    return is_row_of(thing, most, is_name)


# Only for names: other things may not go into a set.
def all_unlike(names):
    return len(set(names)) == len(names)


# "" where a thing does not begin with a text: no form begins with "".
def first_word(thing):
    if isinstance(thing, tuple) and len(thing) > 0 and isinstance(thing[0], str):
        return thing[0]
    return ""


def is_expression(thing):
    return is_expression_within(thing, 0)


def is_expression_within(thing, around):
    word = first_word(thing)
    if around > MOST_AROUND:
        return False
    if word == "number":
        return is_row(thing, 2) and is_number(thing[1])
    if word == "name":
        return is_row(thing, 2) and is_name(thing[1])
    if word == "call":
        return is_row(thing, 3) and is_name(thing[1]) and are_parts_within(thing[2], around + 1)
    if word not in SIGNS or not is_row(thing, 3):
        return False
    return is_expression_within(thing[1], around + 1) and is_expression_within(thing[2], around + 1)


def are_parts_within(thing, around):
    return is_row_of(thing, MOST_PARTS, lambda part: is_expression_within(part, around))


def is_block(thing):
    return is_block_within(thing, 0)


def is_block_within(thing, around):
    if not isinstance(thing, tuple):
        return False
    return is_row_of(thing, len(thing), lambda statement: is_statement_within(statement, around))


def is_statement_within(thing, around):
    word = first_word(thing)
    if around > MOST_AROUND or word not in STATEMENT_FORMS:
        return False
    sorts = part_sorts_of(word)
    if len(thing) != len(sorts) + 1:
        return False
    for sort, part in zip(sorts, thing[1:]):
        if not is_part_within(sort, part, around + 1):
            return False
    return True


# In the order of the statement's tuple, which is that of its writing.
def part_sorts_of(word):
    return [step for step in STATEMENT_FORMS[word] if step in PART_SORTS]


def is_part_within(sort, part, around):
    if sort in NAME_SORTS:
        return is_name(part)
    if sort == "EXPRESSION":
        return is_expression_within(part, around)
    if sort == "PARTS":
        return are_parts_within(part, around)
    return is_block_within(part, around)


def is_deed(thing):
    if not is_row(thing, 4) or not is_name(thing[0]):
        return False
    if not is_row_of_names(thing[1], MOST_PARAMS) or not is_row_of_names(thing[2], MOST_OWNS):
        return False
    return all_unlike(thing[1] + thing[2]) and is_block(thing[3])


def is_face(thing):
    if not is_row(thing, 3) or not is_name(thing[0]):
        return False
    if not is_row_of_names(thing[1], MOST_WORDS) or not is_row_of(thing[2], MOST_DEEDS, is_told_deed):
        return False
    return all_unlike(list(thing[1]) + [told[0] for told in thing[2]])


def is_told_deed(thing):
    return is_row(thing, 2) and is_name(thing[0]) and is_whole(thing[1]) and 0 <= thing[1] <= MOST_PARAMS


def is_unit(thing):
    if not is_row(thing, 5) or not is_name(thing[0]):
        return False
    if not is_row_of(thing[1], MOST_TAKES, is_take) or not is_row_of_names(thing[2], MOST_WORDS):
        return False
    return is_row_of(thing[3], MOST_DEEDS, is_deed) and is_block(thing[4])


def is_take(thing):
    return is_row(thing, 2) and is_name(thing[0]) and is_name(thing[1])
