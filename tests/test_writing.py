import unittest

from joinmill.errors import NoThing
from joinmill.writing import written
from tests.samples import (
    DEEDS, EXPRESSION_WRAPS, EXPRESSIONS, FACES, HOLDERS, KEPT, ODD, ONE, STATEMENT_WRAPS, STATEMENTS, UNITS, nested,
    places, replaced, unit_of, unit_of_deed,
)


class Written(unittest.TestCase):
    def test_faces_and_units(self):
        for thing, text in FACES + UNITS:
            with self.subTest(text=text):
                self.assertEqual(written(thing), text)

    def test_each_expression(self):
        for expression, text in EXPRESSIONS:
            with self.subTest(text=text):
                self.assertEqual(written(unit_of((("give", expression),))), "unit u do give " + text + " end done")

    def test_each_statement(self):
        for statement, text in STATEMENTS:
            with self.subTest(text=text):
                self.assertEqual(written(unit_of((statement,))), "unit u do " + text + " end done")
                self.assertEqual(written(unit_of_deed(("f", (), (), (statement,)))),
                                 "unit u deed f with own do " + text + " end do end done")

    def test_each_deed(self):
        for deed, text in DEEDS:
            with self.subTest(text=text):
                self.assertEqual(written(unit_of_deed(deed)), "unit u " + text + " do end done")

    def test_a_unit_of_everything(self):
        unit = ("mill", (("wheel", "turn"), ("store", "grain")), ("sum", "left"),
                (("grind", ("many",), ("i",), (("let", "i", ("name", "many")), ("give", ("*", ("name", "i"), ONE)))),),
                (("get", "left"), ("let", "sum", ("call", "grind", (("name", "left"),))), ("tell", ("name", "sum"))))
        self.assertEqual(written(unit),
                         "unit mill take turn from wheel take grain from store word sum word left"
                         " deed grind with many own i do let i be many give * i 1 end"
                         " do get left let sum be call grind 1 left tell sum end done")

    def test_as_deep_as_may_be(self):
        self.assertEqual(written(unit_of((nested(12, ("get", "x"), STATEMENT_WRAPS[0]),))),
                         "unit u do " + "while 1 do " * 12 + "get x" + " end" * 12 + " end done")
        self.assertEqual(written(unit_of((("tell", nested(11, ONE, EXPRESSION_WRAPS[0])),))),
                         "unit u do tell " + "+ " * 11 + "1" + " 1" * 11 + " end done")

    def test_asked_again(self):
        for thing, text in FACES + UNITS:
            self.assertEqual(written(thing), written(thing))


class NotWritten(unittest.TestCase):
    def refuse(self, thing):
        with self.assertRaises(NoThing) as caught:
            written(thing)
        self.assertIs(type(caught.exception), NoThing)

    def test_odd_things(self):
        for place, thing in enumerate(ODD):
            with self.subTest(place=place):
                self.refuse(thing)

    def test_parts_alone(self):
        parts = ["a", 0, (), ((ONE,),), "face a done"]
        for thing, text in EXPRESSIONS + STATEMENTS + DEEDS:
            parts.append(thing)
            parts.append((thing,))
        for part in parts:
            with self.subTest(part=part):
                self.refuse(part)

    def test_a_list_a_truth_or_a_kept_word_within(self):
        for thing, text in FACES + UNITS:
            for path, part in places(thing):
                with self.subTest(text=text, path=path):
                    self.refuse(replaced(thing, path, True))
                    if isinstance(part, tuple):
                        self.refuse(replaced(thing, path, list(part)))
        for word in KEPT:
            with self.subTest(word=word):
                self.refuse((word, (), ()))
                self.refuse(unit_of((("get", word),)))

    def test_beyond_the_bounds(self):
        things = [
            ("a", tuple("abcdefg"), ()), ("a", (), (("f", 5),)), ("a", (), (("f", -1),)), ("a", ("b", "b"), ()),
            ("a", ("b",), (("b", 0),)), ("u", (("v", "x"),) * 9, (), (), ()), ("u", (), ("x",) * 7, (), ()),
            ("u", (), (), (("f", (), (), ()),) * 7, ()), unit_of_deed(("f", ("a",), ("a",), ())),
            unit_of((("give", ("number", 1000000)),)), unit_of((("do", "f", (ONE,) * 5),)),
            unit_of((nested(13, ("get", "x"), STATEMENT_WRAPS[0]),)),
            unit_of((HOLDERS[0](nested(12, ONE, EXPRESSION_WRAPS[0])),)),
        ]
        for thing in things:
            with self.subTest(thing=thing):
                self.refuse(thing)
