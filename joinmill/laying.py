"""Lays the rows of joined units behind one another, as a machine is made of them."""

from joinmill.coding import rows_of

# What stands behind the row's word: a unit and a deed of it, or units and places of words in them.
DEED_ROWS = ("call", "new")
WORD_ROWS = ("word", "let", "hand", "await")


# A tuple, not a list: many machines may be made of one lay, and none of them can change it.
def laid(things):
    faces = {}
    for face, unit in things:
        if face is not None:
            faces[unit[0]] = face
    rows = []
    for face, unit in things:
        rows.extend(rows_of(unit, faces, face))
    rows.append(("end",))
    units = unit_places(rows)
    deeds = deed_places(rows)
    return tuple([settled(row, units, deeds) for row in rows])


def unit_places(rows):
    names = [row[1] for row in rows if row[0] == "unit"]
    return dict([(name, place) for place, name in enumerate(names)])


# The numbers of the rows with which deeds begin, each by its unit and its name.
def deed_places(rows):
    places = {}
    unit = None
    for place, row in enumerate(rows):
        if row[0] == "unit":
            unit = row[1]
        elif row[0] == "deed":
            places[(unit, row[1])] = place
    return places


# Names are settled here, so that the machine needs none: a unit is told by its place, a deed by its row's number.
def settled(row, units, deeds):
    if row[0] in DEED_ROWS:
        return (row[0], deeds[row[1:]])
    if row[0] in WORD_ROWS:
        return (row[0],) + tuple([units[item] if isinstance(item, str) else item for item in row[1:]])
    return row
