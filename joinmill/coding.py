"""Makes rows for the machine of a unit.

A row is a word and what it needs. Rows are laid behind those of other units only later, so that none of them tells the
number of a row: a unit is told by its name, a deed by its unit and its name, and how far a row leads by how many rows
it passes over (below nought: backwards, itself among them).

    unit NAME WORDS ROWS      a unit with so many words; its deeds are passed over
    deed NAME PARAMS OWNS     a deed; where it is called, its call begins here
    step                      here a step is counted
    number N                  lays N on the row of values
    word UNIT PLACE           lays a word's value there; UNIT is None where it is a param or an own
    let UNIT PLACE            takes the last value for the word
    sign SIGN                 takes the last two values and lays theirs
    call UNIT DEED            takes the parts, and lays what the deed gives when it has ended
    give                      the call ends with the last value
    drop                      takes the last value for nothing
    leave ROWS                takes the last value for nothing, and passes over rows
    pass ROWS                 passes over rows
    unless ROWS               takes the last value, and passes over rows where it is 0
    tell                      tells the last value
    get                       lays the next of the numbers that come in
    new UNIT DEED             lays the number of a new process
    hand UNIT PLACE           takes the last value as the process that goes on
    await UNIT PLACE UNIT PLACE
                              the process of the second word's value goes on
"""

from joinmill.meaning import words_of


def rows_of(unit, faces, face):
    top = top_of(unit, faces, face)
    deeds = []
    for deed in unit[3]:
        deeds.extend(rows_of_deed(deed, top))
    head = ("unit", unit[0], len(words_of(unit, face)), len(deeds))
    return [head] + deeds + rows_of_unit_block(unit[4], top)


# What a name means is told by what a row needs: the unit, then the word's place in it or the deed's name.
def top_of(unit, faces, face):
    top = {}
    for place, name in enumerate(words_of(unit, face)):
        top[name] = (unit[0], place)
    for deed in unit[3]:
        top[deed[0]] = (unit[0], deed[0])
    for source, name in unit[1]:
        words = faces[source][1]
        top[name] = (source, words.index(name) if name in words else name)
    return top


def rows_of_deed(deed, top):
    scope = dict(top)
    for place, name in enumerate(deed[1] + deed[2]):
        scope[name] = (None, place)
    head = ("deed", deed[0], len(deed[1]), len(deed[2]))
    return [head] + rows_of_block(deed[3], scope) + [("number", 0), ("give",)]


# There is no call here that a give could end: what is left of the block is passed over.
def rows_of_unit_block(block, top):
    rows = rows_of_block(block, top)
    last = len(rows) - 1
    return [("leave", last - place) if row == ("give",) else row for place, row in enumerate(rows)]


def rows_of_block(block, scope):
    rows = []
    for statement in block:
        rows.append(("step",))
        rows.extend(rows_of_statement(statement, scope))
    return rows


def rows_of_statement(statement, scope):
    word = statement[0]
    if word == "if":
        return rows_of_if(statement, scope)
    if word == "while":
        return rows_of_while(statement, scope)
    if word == "do":
        return rows_of_parts(statement[2], scope) + [("call",) + scope[statement[1]], ("drop",)]
    if word == "give" or word == "tell":
        return rows_of_expression(statement[1], scope) + [(word,)]
    if word == "let" or word == "hand":
        return rows_of_expression(statement[2], scope) + [(word,) + scope[statement[1]]]
    if word == "get":
        return [("get",), ("let",) + scope[statement[1]]]
    if word == "new":
        return [("new",) + scope[statement[2]], ("let",) + scope[statement[1]]]
    return [("await",) + scope[statement[1]] + scope[statement[2]]]


def rows_of_if(statement, scope):
    first = rows_of_block(statement[2], scope)
    second = rows_of_block(statement[3], scope)
    asked = rows_of_expression(statement[1], scope) + [("unless", len(first) + 1)]
    return asked + first + [("pass", len(second))] + second


# Asking again leads back to the very step with which the statement begins, the row ahead of these.
def rows_of_while(statement, scope):
    block = rows_of_block(statement[2], scope)
    rows = rows_of_expression(statement[1], scope) + [("unless", len(block) + 1)] + block
    return rows + [("pass", -len(rows) - 2)]


def rows_of_expression(expression, scope):
    word = expression[0]
    if word == "number":
        return [("number", expression[1])]
    if word == "name":
        return [("word",) + scope[expression[1]]]
    if word == "call":
        return rows_of_parts(expression[2], scope) + [("step",), ("call",) + scope[expression[1]]]
    return rows_of_parts(expression[1:], scope) + [("sign", word)]


def rows_of_parts(parts, scope):
    rows = []
    for part in parts:
        rows.extend(rows_of_expression(part, scope))
    return rows
