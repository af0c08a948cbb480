import unittest

from joinmill.errors import MillError, NoFit, NoJoin, NoRoom, NoText, NoThing
from joinmill.reading import read
from joinmill.writing import written

REFUSALS = [NoText, NoThing, NoFit, NoRoom, NoJoin]


class Errors(unittest.TestCase):
    def test_any_refusal_is_a_mill_error_and_a_value_error(self):
        self.assertTrue(issubclass(MillError, ValueError))
        for refusal in REFUSALS:
            for above in [MillError, ValueError]:
                with self.subTest(refusal=refusal, above=above), self.assertRaises(above):
                    raise refusal("words")

    def test_none_stands_below_another(self):
        for one in REFUSALS:
            for other in REFUSALS:
                with self.subTest(one=one, other=other):
                    self.assertEqual(issubclass(one, other), one == other)

    def test_a_refusal_is_caught_by_each_class_above_it(self):
        for above in [NoText, MillError, ValueError]:
            with self.subTest(above=above), self.assertRaises(above):
                read("no such text")
        for above in [NoThing, MillError, ValueError]:
            with self.subTest(above=above), self.assertRaises(above):
                written(("no", "such", "thing"))
