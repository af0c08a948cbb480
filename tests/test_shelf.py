import unittest

from joinmill.errors import NoFit, NoRoom, NoText
from joinmill.reading import read
from joinmill.shelf import Shelf
from joinmill.writing import written

NAMES = ["a", "b", "c", "d", "e", "f", "g", "h", "i", "j", "none"]
NO_TEXTS = ["", " ", "x", "face a", "face  a done", "face a done ", "unit a do end", "face do done", "unit a do done",
            "face a word b word b done", "unit a do get x", "face a deed f 5 done", "face a done\n"]


def face(name, rest=""):
    return "face " + name + " " + rest + "done"


def unit(name, rest="", block=""):
    return "unit " + name + " " + rest + "do " + block + "end done"


# A shelf on which each name has a face that tells one word, the name with an x behind it.
def shelf_of_faces(names):
    shelf = Shelf()
    for name in names:
        shelf.put(face(name, "word " + name + "x "))
    return shelf


# Takes the word of each of the names.
def taking(name, sources):
    return unit(name, "".join(["take " + source + "x from " + source + " " for source in sources]))


def all_told(shelf, names=NAMES):
    return [(name, shelf.key_of(name), shelf.face_of(name), shelf.unit_of(name), shelf.keys_of(name), shelf.joined(name))
            for name in names]


class Shelves(unittest.TestCase):
    def refuse(self, refusal, shelf, text):
        with self.subTest(text=text):
            before = all_told(shelf)
            with self.assertRaises(refusal) as caught:
                shelf.put(text)
            self.assertIs(type(caught.exception), refusal)
            self.assertEqual(all_told(shelf), before)


class Empty(Shelves):
    def test_names_that_there_are_none_of(self):
        shelf = Shelf()
        for name in NAMES:
            self.assertEqual(shelf.key_of(name), 0)
            self.assertIs(type(shelf.key_of(name)), int)
            self.assertIsNone(shelf.face_of(name))
            self.assertIsNone(shelf.unit_of(name))
            self.assertEqual(shelf.keys_of(name), ())
            self.assertEqual(shelf.joined(name), ("nounit", name))

    def test_a_face_alone_and_a_unit_alone(self):
        shelf = Shelf()
        shelf.put(face("a"))
        shelf.put(unit("b"))
        self.assertEqual((shelf.key_of("a"), shelf.face_of("a"), shelf.unit_of("a"), shelf.keys_of("a")),
                         (1, ("a", (), ()), None, ()))
        self.assertEqual((shelf.key_of("b"), shelf.face_of("b"), shelf.unit_of("b"), shelf.keys_of("b")),
                         (0, None, ("b", (), (), (), ()), (("b", 0),)))
        self.assertEqual(shelf.key_of("c"), 0)


class Faces(Shelves):
    def test_keys_over_all_faces(self):
        shelf = Shelf()
        told = [shelf.put(face(name)) for name in ["a", "b", "a", "c", "c", "a", "b"]]
        self.assertEqual(told, [1, 2, 3, 4, 5, 6, 7])
        self.assertEqual([shelf.key_of(name) for name in ["a", "b", "c", "d"]], [6, 7, 5, 0])

    def test_units_and_refused_texts_take_no_key(self):
        shelf = Shelf()
        self.assertEqual(shelf.put(unit("a")), 0)
        self.assertEqual(shelf.put(face("a")), 1)
        self.assertEqual(shelf.put(unit("a")), 0)
        self.refuse(NoText, shelf, "face b")
        self.refuse(NoFit, shelf, unit("b", "", "get x "))
        self.assertEqual(shelf.put(face("b")), 2)
        self.assertEqual([type(shelf.put(text)) for text in [face("a"), unit("a")]], [int, int])

    def test_kept_in_the_place_of_the_one_there_was(self):
        shelf = Shelf()
        for key, text in enumerate([face("a"), face("a", "word x "), face("a", "deed f 2 "), face("a")], start=1):
            self.assertEqual(shelf.put(text), key)
            self.assertEqual(shelf.face_of("a"), read(text))
            self.assertEqual(shelf.key_of("a"), key)

    def test_the_same_face_again_has_a_new_key(self):
        shelf = Shelf()
        self.assertEqual([shelf.put(face("a", "word x ")) for _ in range(3)], [1, 2, 3])
        self.assertEqual(shelf.key_of("a"), 3)

    def test_a_face_changes_no_unit(self):
        shelf = shelf_of_faces("ab")
        shelf.put(taking("a", "b"))
        kept, keys = shelf.unit_of("a"), shelf.keys_of("a")
        shelf.put(face("a", "word other "))
        shelf.put(face("b"))
        self.assertEqual((shelf.unit_of("a"), shelf.keys_of("a")), (kept, keys))

    def test_many_keys(self):
        shelf = Shelf()
        for key in range(1, 200):
            self.assertEqual(shelf.put(face("abcdefgh"[key % 8])), key)


class Units(Shelves):
    def test_what_is_kept(self):
        shelf = shelf_of_faces("ab")
        text = unit("c", "take ax from a word w deed f with i own do give i end ", "tell call f 1 ax ")
        self.assertEqual(shelf.put(text), 0)
        self.assertEqual(shelf.unit_of("c"), read(text))
        self.assertEqual(written(shelf.unit_of("c")), text)

    def test_kept_in_the_place_of_the_one_there_was(self):
        shelf = shelf_of_faces("ab")
        for text, keys in [(unit("a"), (("a", 1),)), (taking("a", "b"), (("a", 1), ("b", 2))), (unit("a"), (("a", 1),))]:
            shelf.put(text)
            self.assertEqual(shelf.unit_of("a"), read(text))
            self.assertEqual(shelf.keys_of("a"), keys)

    def test_the_own_name_s_key_ahead(self):
        shelf = shelf_of_faces("abcd")
        shelf.put(taking("d", "cab"))
        self.assertEqual(shelf.keys_of("d"), (("d", 4), ("c", 3), ("a", 1), ("b", 2)))

    def test_0_where_no_face_has_its_name(self):
        shelf = shelf_of_faces("abc")
        shelf.put(taking("d", "ba"))
        self.assertEqual(shelf.keys_of("d"), (("d", 0), ("b", 2), ("a", 1)))

    def test_each_unit_that_it_takes_from_once(self):
        shelf = Shelf()
        shelf.put(face("a", "word ax word ay deed af 1 "))
        shelf.put(face("b", "word bx word by deed bf 0 "))
        shelf.put(face("c", "word cx "))
        shelf.put(unit("d", "take by from b take ax from a take bx from b take cx from c take ay from a take af from a "))
        self.assertEqual(shelf.keys_of("d"), (("d", 0), ("b", 2), ("a", 1), ("c", 3)))

    def test_the_keys_that_faces_have_now(self):
        shelf = shelf_of_faces("ab")
        shelf.put(face("a", "word ax "))
        shelf.put(taking("b", "a"))
        self.assertEqual(shelf.keys_of("b"), (("b", 2), ("a", 3)))
        shelf.put(face("b"))
        shelf.put(face("a", "word ax "))
        self.assertEqual(shelf.keys_of("b"), (("b", 2), ("a", 3)))
        shelf.put(taking("b", "a"))
        self.assertEqual(shelf.keys_of("b"), (("b", 4), ("a", 5)))

    def test_asked_with_the_faces_that_are_kept_now(self):
        shelf = Shelf()
        self.refuse(NoFit, shelf, taking("a", "b"))
        shelf.put(face("b"))
        self.refuse(NoFit, shelf, taking("a", "b"))
        shelf.put(face("b", "word bx "))
        shelf.put(taking("a", "b"))
        shelf.put(face("b", "word other "))
        self.refuse(NoFit, shelf, taking("a", "b"))

    def test_asked_with_its_own_face(self):
        shelf = Shelf()
        self.refuse(NoFit, shelf, unit("a", "", "get x "))
        shelf.put(face("a", "word x "))
        shelf.put(unit("a", "", "get x "))
        self.refuse(NoFit, shelf, unit("a", "word x "))
        shelf.put(face("a", "deed f 1 "))
        self.refuse(NoFit, shelf, unit("a"))
        self.refuse(NoFit, shelf, unit("a", "deed f with own do end "))
        shelf.put(unit("a", "deed f with i own do end "))

    def test_not_asked_with_the_own_face_of_another(self):
        shelf = Shelf()
        shelf.put(face("a", "word x deed f 1 "))
        shelf.put(unit("b", "word x deed f with own do end "))
        self.refuse(NoFit, shelf, unit("c", "", "get x "))

    def test_a_face_need_not_have_a_unit(self):
        shelf = shelf_of_faces("b")
        shelf.put(taking("a", "b"))
        self.assertIsNone(shelf.unit_of("b"))

    def test_a_unit_is_no_face(self):
        shelf = Shelf()
        shelf.put(unit("b", "word bx "))
        self.refuse(NoFit, shelf, taking("a", "b"))

    def test_each_fault_refuses(self):
        shelf = Shelf()
        shelf.put(face("a", "word ax deed af 1 "))
        shelf.put(face("b", "word bx deed bf 0 "))
        good = "deed bf with own do end "
        shelf.put(unit("b", "take ax from a word w " + good))
        for rest, block in [("take x from none ", ""), ("take bx from b ", ""), ("take zz from a ", ""),
                            ("take ax from a take ax from a ", ""), ("word w word w ", ""),
                            (good + good, ""), (good, "get zz "), (good, "get bf "), (good, "do bx 0 "),
                            (good, "do bf 1 bx "), (good, "tell call bf 1 bx "), ("", ""),
                            ("deed bf with i own do end ", ""), ("take af from a " + good, "new bx deed af ")]:
            self.refuse(NoFit, shelf, unit("b", rest, block))
        self.assertEqual(shelf.unit_of("b"), read(unit("b", "take ax from a word w " + good)))

    def test_from_its_own_name(self):
        shelf = shelf_of_faces("a")
        self.refuse(NoFit, shelf, taking("a", "a"))


class Room(Shelves):
    EIGHT = "abcdefgh"

    def test_a_ninth_name_of_a_face_and_of_a_unit(self):
        for put in [face, unit]:
            shelf = Shelf()
            for name in self.EIGHT:
                shelf.put(put(name))
            self.refuse(NoRoom, shelf, face("i"))
            self.refuse(NoRoom, shelf, unit("i"))
            self.refuse(NoRoom, shelf, face("j", "word x "))

    def test_names_of_faces_and_of_units_together(self):
        shelf = Shelf()
        for place, name in enumerate(self.EIGHT):
            shelf.put(face(name) if place % 2 == 0 else unit(name))
        self.refuse(NoRoom, shelf, face("i"))
        self.refuse(NoRoom, shelf, unit("i"))

    def test_a_name_with_a_face_and_a_unit_is_one(self):
        shelf = Shelf()
        for name in self.EIGHT:
            shelf.put(face(name))
            shelf.put(unit(name))
        self.refuse(NoRoom, shelf, face("i"))
        self.refuse(NoRoom, shelf, unit("i"))
        for name in self.EIGHT:
            shelf.put(face(name))
            shelf.put(unit(name))

    def test_a_name_that_is_there_is_no_ninth(self):
        shelf = Shelf()
        for place, name in enumerate(self.EIGHT):
            shelf.put(face(name) if place % 2 == 0 else unit(name))
        for place, name in enumerate(self.EIGHT):
            shelf.put(unit(name) if place % 2 == 0 else face(name))
        self.assertEqual(shelf.key_of("b"), 5)
        self.assertEqual(shelf.keys_of("a"), (("a", 1),))
        self.refuse(NoRoom, shelf, unit("i"))

    def test_refused_texts_take_no_room(self):
        shelf = Shelf()
        for name in "stuvwxyz":
            self.refuse(NoFit, shelf, unit(name, "", "get x "))
            self.refuse(NoText, shelf, "face " + name)
        for name in self.EIGHT:
            shelf.put(face(name))
        self.refuse(NoRoom, shelf, face("i"))
        self.assertEqual(shelf.put(face("h")), 9)

    def test_names_put_again_take_no_more_room(self):
        shelf = Shelf()
        for _ in range(5):
            for name in "abcdefg":
                shelf.put(face(name))
                shelf.put(unit(name))
        shelf.put(unit("h"))
        self.refuse(NoRoom, shelf, unit("i"))

    def test_no_text_ahead_of_no_room(self):
        shelf = shelf_of_faces(self.EIGHT)
        for text in ["face i", "unit i do end", "face i  done", "face i word x word x done", "unit i do get x",
                     "face do done", "x"]:
            self.refuse(NoText, shelf, text)

    def test_no_room_ahead_of_no_fit(self):
        shelf = shelf_of_faces(self.EIGHT)
        for text in [unit("i", "", "get x "), taking("i", "j"), unit("i", "word w word w "), unit("i", "take a from i ")]:
            self.refuse(NoRoom, shelf, text)
        self.refuse(NoFit, shelf, unit("a", "", "get x "))

    def test_no_text_ahead_of_no_fit(self):
        shelf = Shelf()
        self.refuse(NoText, shelf, "unit a do get x end")
        self.refuse(NoText, shelf, "unit a word w word w do end done ")


class Refused(Shelves):
    def test_no_text(self):
        empty = Shelf()
        full = shelf_of_faces("abcdefgh")
        full.put(taking("a", "bc"))
        for text in NO_TEXTS:
            self.refuse(NoText, empty, text)
            self.refuse(NoText, full, text)

    def test_behind_a_refusal_all_goes_on_as_if_it_had_not_been(self):
        plain, pestered = Shelf(), Shelf()
        texts = [face("a", "word ax "), unit("a"), face("b", "word bx "), taking("b", "a"), face("a", "word ax "),
                 taking("a", "b"), taking("b", "a")]
        for text in texts:
            for wrong in ["face a", unit("a", "", "get zz "), unit("b", "take zz from a "), unit("z", "take z from z ")]:
                with self.assertRaises((NoText, NoFit)):
                    pestered.put(wrong)
            self.assertEqual(pestered.put(text), plain.put(text))
            self.assertEqual(all_told(pestered), all_told(plain))


class Apart(Shelves):
    def test_two_shelves_beside_one_another(self):
        one, other = Shelf(), Shelf()
        one.put(face("a", "word ax "))
        one.put(taking("b", "a"))
        self.assertEqual(all_told(other), all_told(Shelf()))
        self.assertEqual(other.put(face("b")), 1)
        self.refuse(NoFit, other, taking("c", "a"))
        self.assertEqual((one.key_of("b"), one.face_of("b")), (0, None))
        self.assertEqual((other.key_of("a"), other.unit_of("b")), (0, None))
        self.assertEqual(one.put(face("a")), 2)

    def test_a_full_one_beside_another(self):
        full = shelf_of_faces("abcdefgh")
        self.refuse(NoRoom, full, face("i"))
        self.assertEqual(Shelf().put(face("i")), 1)

    def test_asked_again_the_same(self):
        shelf = shelf_of_faces("abc")
        shelf.put(taking("a", "bc"))
        self.assertEqual(all_told(shelf), all_told(shelf))

    def test_the_same_texts_in_the_same_order_tell_the_same(self):
        shelves = []
        for _ in range(2):
            shelf = shelf_of_faces("abc")
            shelf.put(taking("a", "bc"))
            shelf.put(face("b"))
            shelves.append(all_told(shelf))
        self.assertEqual(shelves[0], shelves[1])

    def test_what_is_told_stays_as_it_was(self):
        shelf = shelf_of_faces("ab")
        shelf.put(taking("a", "b"))
        told = (shelf.face_of("b"), shelf.unit_of("a"), shelf.keys_of("a"))
        shelf.put(face("b", "word other "))
        shelf.put(unit("a"))
        self.assertEqual(told, (("b", ("bx",), ()), ("a", (("b", "bx"),), (), (), ()), (("a", 1), ("b", 2))))

    def test_only_tuples_are_told(self):
        shelf = shelf_of_faces("ab")
        shelf.put(taking("a", "b"))
        for told in [shelf.face_of("a"), shelf.unit_of("a"), shelf.keys_of("a"), shelf.keys_of("none"),
                     shelf.joined("none")]:
            self.assertIs(type(told), tuple)
        for pair in shelf.keys_of("a"):
            self.assertIs(type(pair), tuple)
