"""Tells what the names of a unit mean, and the first fault that they have."""

from joinmill.things import NAME_SORTS, part_sorts_of

# A meaning is a pair of the sort and the count of params; a word has none.
WORD = ("WORD", 0)


def fault_of(unit, faces, face):
    top = meanings_told(face)
    fault = fault_of_takes(unit, faces, top)
    if fault is None:
        fault = fault_of_words(unit, top)
    if fault is None:
        fault = fault_of_deeds(unit, face, top)
    if fault is None:
        fault = fault_of_blocks(unit, top)
    return fault


def meanings_told(face):
    meanings = {}
    if face is not None:
        for name in face[1]:
            meanings[name] = WORD
        for told in face[2]:
            meanings[told[0]] = ("DEED", told[1])
    return meanings


# All words of a unit in the order in which they are kept: those that its face tells, then those it has for itself.
def words_of(unit, face):
    return unit[2] if face is None else face[1] + unit[2]


# This and the two below lay what they go through on the top, since each name is asked with those ahead of it alone.
def fault_of_takes(unit, faces, top):
    for source, name in unit[1]:
        if source == unit[0] or source not in faces:
            return ("noface", source)
        told = meanings_told(faces[source])
        if name not in told:
            return ("nottold", name)
        if name in top:
            return ("twice", name)
        top[name] = told[name]
    return None


def fault_of_words(unit, top):
    for name in unit[2]:
        if name in top:
            return ("twice", name)
        top[name] = WORD
    return None


def fault_of_deeds(unit, face, top):
    # The own face's deeds that have not come yet, each with its count.
    awaited = {} if face is None else dict(face[2])
    for deed in unit[3]:
        name = deed[0]
        count = len(deed[1])
        if name in awaited:
            if awaited.pop(name) != count:
                return ("count", name)
        elif name in top:
            return ("twice", name)
        top[name] = ("DEED", count)
    if len(awaited) > 0:
        return ("lacks", list(awaited)[0])
    return None


def fault_of_blocks(unit, top):
    for deed in unit[3]:
        meanings = dict(top)
        for name in deed[1] + deed[2]:
            meanings[name] = WORD
        fault = fault_of_block(deed[3], meanings)
        if fault is not None:
            return fault
    return fault_of_block(unit[4], top)


def fault_of_block(block, meanings):
    for use in uses_of_block(block):
        fault = fault_of_use(use, meanings)
        if fault is not None:
            return fault
    return None


# A use is what one place of a block asks of a name, (what, name, count): to mean a WORD, to mean a DEED, or, where that
# was asked already, to have this COUNT of params. Uses are listed in the order in which faults are asked.
def fault_of_use(use, meanings):
    name = use[1]
    if name not in meanings:
        return ("unknown", name)
    meaning = meanings[name]
    if use[0] == "COUNT":
        return ("count", name) if meaning[1] != use[2] else None
    return ("sort", name) if meaning[0] != use[0] else None


def uses_of_block(block):
    uses = []
    for statement in block:
        uses.extend(uses_of_statement(statement))
    return uses


def uses_of_statement(statement):
    uses = []
    for sort, part in zip(part_sorts_of(statement[0]), statement[1:]):
        uses.extend(uses_of_part(sort, part))
    if statement[0] == "do":
        uses.append(("COUNT", statement[1], len(statement[2])))
    if statement[0] == "new":
        # Nothing is handed to the deed of a new process.
        uses.append(("COUNT", statement[2], 0))
    return uses


def uses_of_part(sort, part):
    if sort in NAME_SORTS:
        return [(sort, part, 0)]
    if sort == "EXPRESSION":
        return uses_of_expression(part)
    if sort == "PARTS":
        return uses_of_parts(part)
    return uses_of_block(part)


def uses_of_expression(expression):
    word = expression[0]
    if word == "number":
        return []
    if word == "name":
        return [("WORD", expression[1], 0)]
    if word == "call":
        name = expression[1]
        parts = expression[2]
        return [("DEED", name, 0)] + uses_of_parts(parts) + [("COUNT", name, len(parts))]
    return uses_of_parts(expression[1:])


def uses_of_parts(parts):
    uses = []
    for part in parts:
        uses.extend(uses_of_expression(part))
    return uses
