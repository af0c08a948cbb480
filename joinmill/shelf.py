"""A shelf keeps faces and units, and tells which units are joined from a head."""

from joinmill.errors import NoFit, NoRoom
from joinmill.meaning import fault_of
from joinmill.reading import read
from joinmill.things import is_face

MOST_NAMES = 8


class Shelf:
    def __init__(self):
        self.faces = {}
        self.face_keys = {}
        self.units = {}
        self.unit_keys = {}
        self.last_key = 0

    def put(self, text):
        thing = read(text)
        name = thing[0]
        if not self.has_room_for(name):
            raise NoRoom(f"{name!r} would be one name more than a shelf keeps")
        if is_face(thing):
            return self.put_face(thing)
        return self.put_unit(thing)

    def has_room_for(self, name):
        if name in self.faces or name in self.units:
            return True
        return len(set(self.faces) | set(self.units)) < MOST_NAMES

    def put_face(self, face):
        self.last_key += 1
        self.faces[face[0]] = face
        self.face_keys[face[0]] = self.last_key
        return self.last_key

    def put_unit(self, unit):
        name = unit[0]
        fault = fault_of(unit, self.faces, self.face_of(name))
        if fault is not None:
            raise NoFit(f"the unit {name!r} has the fault {fault!r}")
        self.units[name] = unit
        self.unit_keys[name] = tuple([(other, self.key_of(other)) for other in [name] + sources_of(unit)])
        return 0

    def key_of(self, name):
        return self.face_keys.get(name, 0)

    def face_of(self, name):
        return self.faces.get(name)

    def unit_of(self, name):
        return self.units.get(name)

    def keys_of(self, name):
        return self.unit_keys.get(name, ())

    def joined(self, head):
        come_to = {}
        order = []
        fault = self.go_through(head, come_to, order)
        return ("order", tuple(order)) if fault is None else fault

    def go_through(self, name, come_to, order):
        # Marked ahead of what it takes from, so that units that take from one another come to an end.
        come_to[name] = True
        if name not in self.units:
            return ("nounit", name)
        if self.is_old(name):
            return ("old", name)
        for source in sources_of(self.units[name]):
            if source not in come_to:
                fault = self.go_through(source, come_to, order)
                if fault is not None:
                    return fault
        order.append(name)
        return None

    def is_old(self, name):
        return any([self.key_of(other) != key for other, key in self.unit_keys[name]])


# The units that a unit takes from, each once, in the order of its takes.
def sources_of(unit):
    sources = {}
    for take in unit[1]:
        sources[take[0]] = True
    return list(sources)
