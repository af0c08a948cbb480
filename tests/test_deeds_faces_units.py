import unittest

from joinmill.things import is_block, is_deed, is_expression, is_face, is_name, is_number, is_unit
from tests.samples import (
    BARE, DEEDS, EXPRESSION_WRAPS, EXPRESSIONS, FACES, KEPT, ODD, ONE, STATEMENT_WRAPS, UNITS, nested, places,
    replaced, unit_of, unit_of_deed,
)

BAD_NAMES = ["", "A", "abcdefghi", "a1", "a b", None, True, 1, ("a",), ["a"], ()] + KEPT
BAD_ROWS = [None, True, 0, "", "a", "abc", [], ["a"], (1,), (None,), ("",), ("A",), ("do",), (("a",),), (["a"],)]
BAD_BLOCKS = [None, "", 0, [], ONE, ("get", "x"), (ONE,), (("get", "do"),)]


class Deeds(unittest.TestCase):
    def test_deeds(self):
        for deed, text in DEEDS:
            with self.subTest(text=text):
                self.assertIs(is_deed(deed), True)

    def test_params_and_owns_at_their_bounds(self):
        self.assertIs(is_deed(("f", tuple("abcd"), (), ())), True)
        self.assertIs(is_deed(("f", tuple("abcde"), (), ())), False)
        self.assertIs(is_deed(("f", (), tuple("abcdef"), ())), True)
        self.assertIs(is_deed(("f", (), tuple("abcdefg"), ())), False)
        self.assertIs(is_deed(("f", tuple("abcd"), tuple("efghij"), ())), True)

    def test_params_and_owns_are_all_unlike(self):
        self.assertIs(is_deed(("f", ("a", "a"), (), ())), False)
        self.assertIs(is_deed(("f", (), ("a", "b", "a"), ())), False)
        self.assertIs(is_deed(("f", ("a", "b"), ("c", "b"), ())), False)

    def test_a_deed_may_have_its_own_name_among_them(self):
        self.assertIs(is_deed(("f", ("f",), (), ())), True)
        self.assertIs(is_deed(("f", (), ("f",), ())), True)

    def test_wrong_parts(self):
        for name in BAD_NAMES:
            with self.subTest(name=name):
                self.assertIs(is_deed((name, (), (), ())), False)
                self.assertIs(is_deed(("f", (name,), (), ())), False)
                self.assertIs(is_deed(("f", (), (name,), ())), False)
        for row in BAD_ROWS:
            with self.subTest(row=row):
                self.assertIs(is_deed(("f", row, (), ())), False)
                self.assertIs(is_deed(("f", (), row, ())), False)
        for block in BAD_BLOCKS:
            with self.subTest(block=block):
                self.assertIs(is_deed(("f", (), (), block)), False)

    def test_other_things(self):
        for thing in [(), ("f",), ("f", (), ()), ("f", (), (), (), ()), ["f", (), (), ()], ("f", 0), "f"]:
            with self.subTest(thing=thing):
                self.assertIs(is_deed(thing), False)


class Faces(unittest.TestCase):
    def test_faces(self):
        for face, text in FACES:
            with self.subTest(text=text):
                self.assertIs(is_face(face), True)

    def test_bounds(self):
        deeds = tuple([(name, 0) for name in "hijklmn"])
        self.assertIs(is_face(("a", tuple("abcdef"), deeds[:6])), True)
        self.assertIs(is_face(("a", tuple("abcdefg"), ())), False)
        self.assertIs(is_face(("a", (), deeds)), False)
        for count in range(5):
            self.assertIs(is_face(("a", (), (("f", count),))), True)
        for count in [-1, 5, 10 ** 30, True, False, None, "0", "", (), (1,), [1]]:
            with self.subTest(count=count):
                self.assertIs(is_face(("a", (), (("f", count),))), False)

    def test_words_and_deeds_are_all_unlike(self):
        self.assertIs(is_face(("a", ("b", "b"), ())), False)
        self.assertIs(is_face(("a", (), (("b", 1), ("b", 2)))), False)
        self.assertIs(is_face(("a", (), (("b", 1), ("c", 1), ("b", 1)))), False)
        self.assertIs(is_face(("a", ("b", "c"), (("d", 0), ("c", 0)))), False)

    def test_a_face_may_tell_its_own_name(self):
        self.assertIs(is_face(("a", ("a",), ())), True)
        self.assertIs(is_face(("a", (), (("a", 0),))), True)

    def test_wrong_parts(self):
        for name in BAD_NAMES:
            with self.subTest(name=name):
                self.assertIs(is_face((name, (), ())), False)
                self.assertIs(is_face(("a", (name,), ())), False)
                self.assertIs(is_face(("a", (), ((name, 0),))), False)
        for row in BAD_ROWS:
            with self.subTest(row=row):
                self.assertIs(is_face(("a", row, ())), False)
                self.assertIs(is_face(("a", (), row)), False)
        for told in [("f",), ("f", 0, 0), ["f", 0], (0, "f"), ("f", "g"), (), ("f", (), (), ())]:
            with self.subTest(told=told):
                self.assertIs(is_face(("a", (), (told,))), False)

    def test_other_things(self):
        for thing in [(), ("a",), ("a", ()), ("a", (), (), ()), ["a", (), ()], ("a", ("f", 0), ())]:
            with self.subTest(thing=thing):
                self.assertIs(is_face(thing), False)
        for unit, text in UNITS:
            self.assertIs(is_face(unit), False)


class Units(unittest.TestCase):
    def test_units(self):
        for unit, text in UNITS:
            with self.subTest(text=text):
                self.assertIs(is_unit(unit), True)

    def test_bounds(self):
        takes = tuple([("v", name) for name in "abcdefghi"])
        deeds = tuple([(name, (), (), ()) for name in "abcdefg"])
        self.assertIs(is_unit(("u", takes[:8], tuple("abcdef"), deeds[:6], ())), True)
        self.assertIs(is_unit(("u", takes, (), (), ())), False)
        self.assertIs(is_unit(("u", (), tuple("abcdefg"), (), ())), False)
        self.assertIs(is_unit(("u", (), (), deeds, ())), False)

    def test_its_names_may_be_alike(self):
        self.assertIs(is_unit(("u", (("v", "x"), ("v", "x")), (), (), ())), True)
        self.assertIs(is_unit(("u", (("u", "u"), ("v", "v")), (), (), ())), True)
        self.assertIs(is_unit(("u", (), ("w", "w", "u"), (), ())), True)
        self.assertIs(is_unit(("u", (("v", "x"),), ("x",), (("x", (), (), ()), ("x", ("x",), (), ())), ())), True)

    def test_wrong_parts(self):
        for name in BAD_NAMES:
            with self.subTest(name=name):
                self.assertIs(is_unit((name, (), (), (), ())), False)
                self.assertIs(is_unit(("u", ((name, "x"),), (), (), ())), False)
                self.assertIs(is_unit(("u", (("v", name),), (), (), ())), False)
                self.assertIs(is_unit(("u", (), (name,), (), ())), False)
                self.assertIs(is_unit(unit_of_deed((name, (), (), ()))), False)
        for row in BAD_ROWS:
            with self.subTest(row=row):
                self.assertIs(is_unit(("u", row, (), (), ())), False)
                self.assertIs(is_unit(("u", (), row, (), ())), False)
                self.assertIs(is_unit(("u", (), (), row, ())), False)
        for block in BAD_BLOCKS:
            with self.subTest(block=block):
                self.assertIs(is_unit(unit_of(block)), False)
                self.assertIs(is_unit(unit_of_deed(("f", (), (), block))), False)
        for take in [("v",), ("v", "x", "y"), ["v", "x"], ("v", 0), ()]:
            with self.subTest(take=take):
                self.assertIs(is_unit(("u", (take,), (), (), ())), False)

    def test_wrong_deeds(self):
        for deed in [("f", ("a", "a"), (), ()), ("f", ("a",), ("a",), ()), ("f", tuple("abcde"), (), ()), ("f", 0)]:
            with self.subTest(deed=deed):
                self.assertIs(is_unit(unit_of_deed(deed)), False)

    def test_other_things(self):
        for thing in [(), ("u",), ("u", (), (), ()), ("u", (), (), (), (), ()), ["u", (), (), (), ()]]:
            with self.subTest(thing=thing):
                self.assertIs(is_unit(thing), False)
        for face, text in FACES:
            self.assertIs(is_unit(face), False)

    def test_how_deep(self):
        for block_in in [unit_of, lambda block: unit_of_deed(("f", (), (), block))]:
            for bare in BARE:
                self.assertIs(is_unit(block_in((nested(12, bare, STATEMENT_WRAPS[0]),))), True)
                self.assertIs(is_unit(block_in((nested(13, bare, STATEMENT_WRAPS[0]),))), False)
            for wrap in EXPRESSION_WRAPS:
                self.assertIs(is_unit(block_in((("give", nested(11, ONE, wrap)),))), True)
                self.assertIs(is_unit(block_in((("give", nested(12, ONE, wrap)),))), False)


class Everywhere(unittest.TestCase):
    def test_odd_things(self):
        for place, thing in enumerate(ODD):
            with self.subTest(place=place):
                self.assertIs(is_deed(thing), False)
                self.assertIs(is_face(thing), False)
                self.assertIs(is_unit(thing), False)

    def test_odd_things_at_every_place(self):
        for is_one, thing in self.things():
            for path, part in places(thing):
                for number, odd in enumerate(ODD):
                    with self.subTest(is_one=is_one, path=path, number=number):
                        self.assertIn(is_one(replaced(thing, path, odd)), [True, False])

    def test_a_list_or_a_truth_at_any_place(self):
        for is_one, thing in self.things():
            for path, part in places(thing):
                with self.subTest(is_one=is_one, thing=thing, path=path):
                    self.assertIs(is_one(replaced(thing, path, True)), False)
                    self.assertIs(is_one(replaced(thing, path, None)), False)
                    if isinstance(part, tuple):
                        self.assertIs(is_one(replaced(thing, path, list(part))), False)

    def test_things_are_not_mixed_up(self):
        samples = [
            (is_name, ["a"]), (is_number, [0]), (is_expression, [pair[0] for pair in EXPRESSIONS]),
            (is_block, [(), (("get", "x"),)]), (is_deed, [pair[0] for pair in DEEDS]),
            (is_face, [pair[0] for pair in FACES]), (is_unit, [pair[0] for pair in UNITS]),
        ]
        for is_one, things in samples:
            for is_other, others in samples:
                for thing in others:
                    with self.subTest(is_one=is_one, thing=thing):
                        self.assertIs(is_one(thing), is_one == is_other)

    def things(self):
        return ([(is_deed, pair[0]) for pair in DEEDS] + [(is_face, pair[0]) for pair in FACES]
                + [(is_unit, pair[0]) for pair in UNITS])
