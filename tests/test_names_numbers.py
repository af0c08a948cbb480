import unittest

from joinmill.things import is_name, is_number
from tests.samples import KEPT, ODD


class Names(unittest.TestCase):
    def test_names(self):
        # Words that begin an expression's tuple are not kept ones, nor are those of which a kept one is a part.
        for name in ["a", "z", "az", "abcdefgh", "zzzzzzzz", "number", "name", "dos", "unita", "en", "truth"]:
            with self.subTest(name=name):
                self.assertIs(is_name(name), True)

    def test_each_letter(self):
        for letter in "abcdefghijklmnopqrstuvwxyz":
            with self.subTest(letter=letter):
                self.assertIs(is_name(letter), True)

    def test_kept_words_are_no_names(self):
        self.assertEqual(len(KEPT), 26)
        for word in KEPT:
            with self.subTest(word=word):
                self.assertIs(is_name(word), False)
                self.assertIs(is_name(word + "q"), True)

    def test_texts_that_are_no_names(self):
        texts = ["", "abcdefghi", "a" * 1000, "A", "aB", "Do", "a1", "1", "12", "-1", " ", "a b", " a", "a ", "a\n", "\na",
                 "a\t", "\n", "a_b", "_", "a-b", "a.b", "+", "-", "*", "<", "=", "`", "{", "@", "~"]
        for text in texts:
            with self.subTest(text=text):
                self.assertIs(is_name(text), False)

    def test_things_that_are_no_names(self):
        for thing in [True, False, None, 0, 1, ["a"], ("a",), ("a", "b"), [], (), ("name", "a")]:
            with self.subTest(thing=thing):
                self.assertIs(is_name(thing), False)


class Numbers(unittest.TestCase):
    def test_numbers(self):
        for number in [-999999, -999998, -1, 0, 1, 10, 999998, 999999]:
            with self.subTest(number=number):
                self.assertIs(is_number(number), True)

    def test_beyond_the_bounds(self):
        for number in [-1000000, 1000000, -10 ** 7, 10 ** 7, -10 ** 5000, 10 ** 5000]:
            self.assertIs(is_number(number), False)

    def test_things_that_are_no_numbers(self):
        for thing in [True, False, None, "", "1", "a", [], [1], (), (1,), ("number", 1)]:
            with self.subTest(thing=thing):
                self.assertIs(is_number(thing), False)


class Odd(unittest.TestCase):
    def test_odd_things_are_neither(self):
        # Told by their place alone: some are far too large to be shown.
        for place, thing in enumerate(ODD):
            with self.subTest(place=place):
                self.assertIs(is_name(thing), False)
                self.assertIs(is_number(thing), False)
