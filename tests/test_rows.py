import random
import unittest

from joinmill.coding import rows_of
from joinmill.laying import laid
from joinmill.machine import Machine
from joinmill.reading import read
from joinmill.writing import written
from tests.drawn import Draw
from tests.running import MORE_THAN_ALL, joined

TEXTS = [
    "face a word x deed add 1 done",
    "unit a word y deed add with n own do let x be + x n give x end do let y be 2 end done",
    "unit b take x from a take add from a word z deed f with own i do while 1 do await z and i hand i to i end end"
    " do new z deed f do f 0 if < x 3 then get z tell call add 1 -4 end else give = x * z - 5 1 end end done",
]


def faces_of(things):
    return {unit[0]: face for face, unit in things if face is not None}


# The same thing, made anew.
def anew(thing):
    return None if thing is None else read(written(thing))


class Rows(unittest.TestCase):
    def drawn(self):
        yield joined(*TEXTS)
        for seed in range(60):
            yield Draw(random.Random(seed)).things()

    def test_kinds(self):
        for things in self.drawn():
            for face, unit in things:
                rows = rows_of(unit, faces_of(things), face)
                self.assertIs(type(rows), list)
                for row in rows:
                    self.assertIs(type(row), tuple)
                    self.assertIs(type(row[0]), str)
                    for item in row:
                        self.assertIn(type(item), [str, int, type(None)])

    def test_equal_units_have_equal_rows(self):
        for things in self.drawn():
            faces = faces_of(things)
            for face, unit in things:
                rows = rows_of(unit, faces, face)
                self.assertEqual(rows_of(unit, faces, face), rows)
                others = {name: anew(faces[name]) for name in reversed(list(faces))}
                self.assertEqual(rows_of(anew(unit), others, anew(face)), rows)

    def test_each_list_is_a_new_one(self):
        things = joined(*TEXTS)
        for face, unit in things:
            rows = rows_of(unit, faces_of(things), face)
            kept = list(rows)
            rows.clear()
            self.assertEqual(rows_of(unit, faces_of(things), face), kept)
            self.assertNotEqual(kept, [])

    def test_what_is_handed_in_is_not_changed(self):
        things = joined(*TEXTS)
        faces = faces_of(things)
        for face, unit in things:
            rows_of(unit, faces, face)
        laid(things)
        self.assertEqual(faces, {"a": read(TEXTS[0])})
        self.assertEqual(things, joined(*TEXTS))

    # That faces are handed in which the unit doesn't take from, its own among them, makes no other rows.
    def test_faces_that_nothing_is_taken_from(self):
        things = joined(*TEXTS)
        face, unit = things[0]
        self.assertEqual(rows_of(unit, {}, face), rows_of(unit, {"a": face, "c": ("c", ("x",), ())}, face))


class Lays(unittest.TestCase):
    def test_rows_lie_behind_one_another(self):
        things = joined(*TEXTS)
        words = []
        for face, unit in things:
            words.extend([row[0] for row in rows_of(unit, faces_of(things), face)])
        self.assertEqual([row[0] for row in laid(things)], words + ["end"])

    def test_laid_again(self):
        things = joined(*TEXTS)
        self.assertEqual(laid(things), laid(joined(*TEXTS)))

    # Machines that are made of it, and what is done with the rows of its units, leave a lay as it was.
    def test_a_lay_stays_as_it_was(self):
        things = joined(*TEXTS)
        lay = laid(things)
        states = []
        for turn in range(3):
            machine = Machine(lay, [5], 7)
            machine.run(MORE_THAN_ALL if turn else 9)
            machine.run(MORE_THAN_ALL)
            states.append(machine.state())
            for face, unit in things:
                rows_of(unit, faces_of(things), face).clear()
            self.assertEqual(lay, laid(things))
        self.assertEqual(states, [states[0]] * 3)
