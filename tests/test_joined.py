import itertools
import unittest

from joinmill.errors import NoFit, NoJoin
from joinmill.joining import things_of
from joinmill.shelf import Shelf
from tests.test_shelf import all_told, face, shelf_of_faces, taking, unit


# A shelf with a face of each name, and units that take from one another as told.
def joined_shelf(sources):
    shelf = shelf_of_faces(sorted(sources))
    for name in sources:
        shelf.put(taking(name, sources[name]))
    return shelf


def same_face(name):
    return face(name, "word " + name + "x ")


class Joined(unittest.TestCase):
    # What joined tells, and what things_of makes of it.
    def ask(self, shelf, head, expected):
        with self.subTest(head=head):
            before = all_told(shelf)
            self.assertEqual(shelf.joined(head), expected)
            self.assertIs(type(shelf.joined(head)), tuple)
            if expected[0] == "order":
                self.assertIs(type(shelf.joined(head)[1]), tuple)
                self.assertEqual(things_of(shelf, head),
                                 tuple([(shelf.face_of(name), shelf.unit_of(name)) for name in expected[1]]))
            else:
                with self.assertRaises(NoJoin) as caught:
                    things_of(shelf, head)
                self.assertIs(type(caught.exception), NoJoin)
            self.assertEqual(all_told(shelf), before)

    def ask_order(self, sources, head, names):
        self.ask(joined_shelf(sources), head, ("order", tuple(names)))


class Order(Joined):
    def test_one_unit(self):
        self.ask_order({"a": ""}, "a", "a")
        shelf = Shelf()
        shelf.put(unit("a"))
        self.ask(shelf, "a", ("order", ("a",)))

    def test_others_on_the_shelf_are_not_joined(self):
        self.ask_order({"a": "", "b": "a", "c": "", "d": "bc"}, "b", "ab")
        self.ask_order({"a": "", "b": "a", "c": "", "d": "bc"}, "a", "a")

    def test_a_chain(self):
        self.ask_order({"a": "b", "b": "c", "c": "d", "d": ""}, "a", "dcba")
        self.ask_order({"a": "b", "b": "c", "c": "d", "d": ""}, "c", "dc")
        self.ask_order({"h": "g", "g": "f", "f": "e", "e": "d", "d": "c", "c": "b", "b": "a", "a": ""}, "h", "abcdefgh")

    def test_in_the_order_of_the_takes(self):
        for sources in itertools.permutations("bcd"):
            self.ask_order({"a": "".join(sources), "b": "", "c": "", "d": ""}, "a", "".join(sources) + "a")

    def test_a_unit_taken_from_twice_by_one(self):
        shelf = Shelf()
        shelf.put(face("b", "word bx word by "))
        shelf.put(face("c", "word cx "))
        shelf.put(unit("b"))
        shelf.put(unit("c"))
        shelf.put(unit("a", "take bx from b take cx from c take by from b "))
        self.ask(shelf, "a", ("order", ("b", "c", "a")))

    def test_a_unit_that_two_take_from(self):
        self.ask_order({"a": "bc", "b": "d", "c": "d", "d": ""}, "a", "dbca")
        self.ask_order({"a": "bc", "b": "", "c": "b"}, "a", "bca")
        self.ask_order({"a": "cb", "b": "", "c": "b"}, "a", "bca")
        self.ask_order({"a": "db", "b": "c", "c": "", "d": "c"}, "a", "cdba")

    def test_a_ring(self):
        self.ask_order({"a": "b", "b": "a"}, "a", "ba")
        self.ask_order({"a": "b", "b": "a"}, "b", "ab")
        ring = {"a": "b", "b": "c", "c": "a"}
        for head, names in [("a", "cba"), ("b", "acb"), ("c", "bac")]:
            self.ask_order(ring, head, names)

    def test_a_ring_that_others_lead_to(self):
        ring = {"a": "b", "b": "cd", "c": "be", "d": "a", "e": ""}
        for head, names in [("a", "ecdba"), ("b", "ecadb"), ("c", "adbec"), ("d", "ecbad"), ("e", "e")]:
            self.ask_order(ring, head, names)

    def test_all_take_from_all(self):
        names = "abcdefgh"
        sources = {name: names.replace(name, "") for name in names}
        self.ask_order(sources, "a", "hgfedcba")
        self.ask_order(sources, "d", "hgfecbad")

    def test_units_with_and_without_faces(self):
        shelf = shelf_of_faces("b")
        shelf.put(unit("b"))
        shelf.put(taking("a", "b"))
        self.assertEqual(things_of(shelf, "a"), ((("b", ("bx",), ()), ("b", (), (), (), ())),
                                                 (None, ("a", (("b", "bx"),), (), (), ()))))

    def test_in_whatever_order_they_were_put(self):
        sources = {"a": "bc", "b": "d", "c": "d", "d": ""}
        for names in itertools.permutations(sources):
            self.ask_order({name: sources[name] for name in names}, "a", "dbca")


class NoUnit(Joined):
    def test_of_the_head(self):
        self.ask(Shelf(), "a", ("nounit", "a"))
        self.ask(shelf_of_faces("a"), "a", ("nounit", "a"))
        self.ask(joined_shelf({"a": "b", "b": ""}), "c", ("nounit", "c"))

    def test_of_one_further_on(self):
        shelf = shelf_of_faces("abc")
        shelf.put(taking("a", "b"))
        self.ask(shelf, "a", ("nounit", "b"))
        shelf.put(taking("b", "c"))
        self.ask(shelf, "a", ("nounit", "c"))
        self.ask(shelf, "b", ("nounit", "c"))
        shelf.put(unit("c"))
        self.ask(shelf, "a", ("order", ("c", "b", "a")))

    def test_the_first_of_two(self):
        shelf = shelf_of_faces("abcd")
        shelf.put(taking("a", "bc"))
        self.ask(shelf, "a", ("nounit", "b"))
        shelf.put(taking("a", "cb"))
        self.ask(shelf, "a", ("nounit", "c"))
        shelf.put(taking("c", "d"))
        self.ask(shelf, "a", ("nounit", "d"))

    def test_a_refused_unit_is_none(self):
        shelf = shelf_of_faces("ab")
        shelf.put(taking("a", "b"))
        with self.assertRaises(NoFit):
            shelf.put(unit("b", "", "get zz "))
        self.ask(shelf, "a", ("nounit", "b"))


class Old(Joined):
    def test_the_own_face_put_again(self):
        for again in [same_face("a"), face("a"), face("a", "word other ")]:
            shelf = joined_shelf({"a": ""})
            shelf.put(again)
            self.ask(shelf, "a", ("old", "a"))
            shelf.put(unit("a"))
            self.ask(shelf, "a", ("order", ("a",)))

    def test_the_face_of_one_that_it_takes_from(self):
        for again in [same_face("b"), face("b", "word bx word more ")]:
            shelf = joined_shelf({"a": "b", "b": ""})
            shelf.put(again)
            # The unit that remembers is the one that is old.
            self.ask(shelf, "a", ("old", "a"))
            self.ask(shelf, "b", ("old", "b"))
            shelf.put(taking("a", "b"))
            self.ask(shelf, "a", ("old", "b"))
            shelf.put(unit("b"))
            self.ask(shelf, "a", ("order", ("b", "a")))

    def test_only_units_that_are_come_to(self):
        shelf = joined_shelf({"a": "b", "b": "", "c": "a"})
        shelf.put(same_face("c"))
        self.ask(shelf, "a", ("order", ("b", "a")))
        self.ask(shelf, "c", ("old", "c"))

    def test_any_of_the_keys(self):
        for name in "bcde":
            shelf = joined_shelf({"a": "bcde", "b": "", "c": "", "d": "", "e": ""})
            shelf.put(same_face(name))
            shelf.put(unit(name))
            self.ask(shelf, "a", ("old", "a"))
            shelf.put(taking("a", "bcde"))
            self.ask(shelf, "a", ("order", ("b", "c", "d", "e", "a")))

    def test_put_again_as_it_was_before_is_old_still(self):
        shelf = joined_shelf({"a": "b", "b": ""})
        shelf.put(face("b", "word other "))
        shelf.put(same_face("b"))
        shelf.put(unit("b"))
        self.ask(shelf, "a", ("old", "a"))

    def test_one_further_on(self):
        shelf = joined_shelf({"a": "b", "b": "c", "c": ""})
        shelf.put(same_face("c"))
        self.ask(shelf, "a", ("old", "b"))
        shelf.put(taking("b", "c"))
        self.ask(shelf, "a", ("old", "c"))
        shelf.put(unit("c"))
        self.ask(shelf, "a", ("order", ("c", "b", "a")))

    def test_a_face_for_a_name_that_had_none(self):
        shelf = shelf_of_faces("b")
        shelf.put(unit("b"))
        shelf.put(taking("a", "b"))
        self.ask(shelf, "a", ("order", ("b", "a")))
        shelf.put(face("a"))
        self.assertEqual(shelf.keys_of("a"), (("a", 0), ("b", 1)))
        self.ask(shelf, "a", ("old", "a"))
        shelf.put(taking("a", "b"))
        self.ask(shelf, "a", ("order", ("b", "a")))

    def test_put_again_without_what_was_old(self):
        shelf = joined_shelf({"a": "b", "b": ""})
        shelf.put(same_face("b"))
        shelf.put(unit("a"))
        self.ask(shelf, "a", ("order", ("a",)))

    def test_in_a_ring(self):
        shelf = joined_shelf({"a": "b", "b": "c", "c": "a"})
        shelf.put(same_face("a"))
        self.ask(shelf, "a", ("old", "a"))
        self.ask(shelf, "b", ("old", "c"))
        shelf.put(taking("a", "b"))
        self.ask(shelf, "a", ("old", "c"))
        shelf.put(taking("c", "a"))
        self.ask(shelf, "a", ("order", ("c", "b", "a")))

    def test_other_faces_make_nothing_old(self):
        shelf = joined_shelf({"a": "b", "b": ""})
        shelf.put(face("c"))
        shelf.put(face("d"))
        self.ask(shelf, "a", ("order", ("b", "a")))

    def test_a_unit_put_again_makes_none_old(self):
        shelf = joined_shelf({"a": "b", "b": ""})
        shelf.put(unit("b", "word more "))
        self.ask(shelf, "a", ("order", ("b", "a")))


class FirstFault(Joined):
    def test_old_ahead_of_those_that_it_takes_from(self):
        shelf = shelf_of_faces("ab")
        shelf.put(taking("a", "b"))
        shelf.put(same_face("a"))
        self.ask(shelf, "a", ("old", "a"))

    def test_old_and_nounit_in_the_order_of_the_takes(self):
        for sources, fault in [("bc", ("old", "b")), ("cb", ("nounit", "c"))]:
            shelf = shelf_of_faces("abc")
            shelf.put(unit("b"))
            shelf.put(same_face("b"))
            shelf.put(taking("a", sources))
            self.ask(shelf, "a", fault)

    def test_two_old_ones(self):
        for sources in ["bc", "cb"]:
            shelf = joined_shelf({"a": sources, "b": "", "c": ""})
            shelf.put(same_face("b"))
            shelf.put(same_face("c"))
            self.ask(shelf, "a", ("old", "a"))
            shelf.put(taking("a", sources))
            self.ask(shelf, "a", ("old", sources[0]))

    def test_further_down_ahead_of_further_on(self):
        # What b takes from is come to ahead of c.
        shelf = shelf_of_faces("abcd")
        shelf.put(taking("a", "bc"))
        shelf.put(taking("b", "d"))
        self.ask(shelf, "a", ("nounit", "d"))
        shelf.put(unit("d"))
        self.ask(shelf, "a", ("nounit", "c"))


class EverySmallShelf(unittest.TestCase):
    """Whatever is put in whatever order, joined are just those whose faces all have the keys that were remembered."""

    POOL = [same_face("a"), same_face("b"), unit("a"), taking("a", "b"), taking("b", "a"), taking("c", "ab"),
            taking("c", "b")]

    def reached(self, shelf, head):
        names = [head]
        for name in names:
            if shelf.unit_of(name) is not None:
                names.extend([source for source, word in shelf.unit_of(name)[1] if source not in names])
        return names

    def is_sound(self, shelf, name):
        keys = shelf.keys_of(name)
        return shelf.unit_of(name) is not None and all([shelf.key_of(other) == key for other, key in keys])

    def judge(self, shelf, head):
        told, what = shelf.joined(head)
        reached = self.reached(shelf, head)
        if told == "order":
            self.assertEqual(sorted(what), sorted(reached))
            self.assertEqual(what[-1], head)
            self.assertTrue(all([self.is_sound(shelf, name) for name in reached]))
            self.judge_places(shelf, what)
        else:
            self.assertIn(what, reached)
            self.assertFalse(self.is_sound(shelf, what))
            self.assertEqual(told, "nounit" if shelf.unit_of(what) is None else "old")

    # A unit comes behind those that it takes from, but for those that lead back to it.
    def judge_places(self, shelf, order):
        for place, name in enumerate(order):
            for source, word in shelf.unit_of(name)[1]:
                self.assertTrue(source in order[:place] or name in self.reached(shelf, source))

    def test_all_rows_of_puts(self):
        told = set()
        for texts in itertools.product(self.POOL, repeat=5):
            shelf = Shelf()
            for text in texts:
                try:
                    shelf.put(text)
                except NoFit:
                    pass
            for head in "abc":
                self.judge(shelf, head)
                told.add(shelf.joined(head)[0])
        self.assertEqual(told, {"order", "nounit", "old"})


class ThingsOf(Joined):
    def test_pairs_of_face_and_unit(self):
        shelf = Shelf()
        shelf.put("face store word grain deed fill 1 done")
        shelf.put("unit store deed fill with many own do let grain be + grain many end do end done")
        shelf.put("unit mill take grain from store take fill from store do do fill 1 3 tell grain end done")
        fill = ("fill", ("many",), (), (("let", "grain", ("+", ("name", "grain"), ("name", "many"))),))
        self.assertEqual(things_of(shelf, "mill"), (
            (("store", ("grain",), (("fill", 1),)), ("store", (), (), (fill,), ())),
            (None, ("mill", (("store", "grain"), ("store", "fill")), (), (),
                    (("do", "fill", (("number", 3),)), ("tell", ("name", "grain"))))),
        ))
        self.assertEqual(things_of(shelf, "store"), things_of(shelf, "mill")[:1])

    def test_kinds(self):
        things = things_of(joined_shelf({"a": "b", "b": ""}), "a")
        self.assertIs(type(things), tuple)
        for pair in things:
            self.assertIs(type(pair), tuple)
            self.assertEqual(len(pair), 2)

    def test_what_was_told_stays_as_it_was(self):
        shelf = joined_shelf({"a": "b", "b": ""})
        things = things_of(shelf, "a")
        again = things_of(shelf, "a")
        shelf.put(face("b"))
        shelf.put(unit("a", "word w "))
        self.assertEqual(things, again)
        self.assertEqual(things, ((("b", ("bx",), ()), ("b", (), (), (), ())),
                                  (("a", ("ax",), ()), ("a", (("b", "bx"),), (), (), ()))))
        self.assertEqual(things_of(shelf, "a"), ((("a", ("ax",), ()), ("a", (), ("w",), (), ())),))

    def test_no_join(self):
        shelf = shelf_of_faces("ab")
        shelf.put(taking("a", "b"))
        for head in ["a", "b", "c"]:
            with self.assertRaises(NoJoin):
                things_of(shelf, head)
        shelf.put(unit("b"))
        self.assertEqual(len(things_of(shelf, "a")), 2)
        shelf.put(same_face("b"))
        with self.assertRaises(NoJoin):
            things_of(shelf, "a")
