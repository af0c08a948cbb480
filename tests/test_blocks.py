import unittest

from joinmill.meaning import fault_of
from joinmill.things import is_unit
from tests.samples import EXPRESSION_WRAPS, ONE, STATEMENT_WRAPS, nested

OWN = ("u", ("ow",), (("of", 1),))
FACES = {"v": ("v", ("vw",), (("vf", 2), ("vg", 0))), "u": OWN}
TAKES = (("v", "vw"), ("v", "vf"), ("v", "vg"))
WORDS = ("w", "x", "y", "z")
# All that stands at the top; samples.py's ways to lay a statement into others read and get the word x.
WORDS_AT_TOP = ["ow", "vw", "w", "x", "y", "z"]
COUNTS_AT_TOP = {"of": 1, "vf": 2, "vg": 0, "none": 0, "one": 1, "two": 2, "three": 3, "four": 4}

W = ("name", "w")


def deed(name, count=0, block=()):
    return (name, ("pa", "pb", "pc", "pd")[:count], (), tuple(block))


DEEDS = (deed("of", 1), deed("none"), deed("one", 1), deed("two", 2), deed("three", 3), deed("four", 4))


def made(block=(), deeds=DEEDS):
    return ("u", TAKES, WORDS, tuple(deeds), tuple(block))


# Each a way to make a statement or an expression of its parts, and the sorts of these in the order of its writing.
STATEMENTS = [
    (lambda a, b: ("let", a, b), ["WORD", "EXPRESSION"]),
    (lambda a, b, c: ("if", a, b, c), ["EXPRESSION", "BLOCK", "BLOCK"]),
    (lambda a, b: ("while", a, b), ["EXPRESSION", "BLOCK"]),
    (lambda a: ("do", a, ()), ["DEED"]),
    (lambda a, b, c: ("do", a, (b, c)), ["DEED", "EXPRESSION", "EXPRESSION"]),
    (lambda a, b, c, d, e: ("do", a, (b, c, d, e)), ["DEED"] + ["EXPRESSION"] * 4),
    (lambda a: ("give", a), ["EXPRESSION"]),
    (lambda a: ("tell", a), ["EXPRESSION"]),
    (lambda a: ("get", a), ["WORD"]),
    (lambda a, b: ("new", a, b), ["WORD", "DEED"]),
    (lambda a, b: ("hand", a, b), ["WORD", "EXPRESSION"]),
    (lambda a, b: ("await", a, b), ["WORD", "WORD"]),
]
EXPRESSIONS = [
    (lambda a: ("name", a), ["WORD"]),
    (lambda a: ("call", a, ()), ["DEED"]),
    (lambda a, b, c: ("call", a, (b, c)), ["DEED", "EXPRESSION", "EXPRESSION"]),
    (lambda a, b, c, d, e: ("call", a, (b, c, d, e)), ["DEED"] + ["EXPRESSION"] * 4),
] + [(lambda a, b, sign=sign: (sign, a, b), ["EXPRESSION", "EXPRESSION"]) for sign in "+-*<="]
STATEMENTS_OF_EXPRESSIONS = [(lambda *parts, form=form: ("tell", form(*parts)), sorts) for form, sorts in EXPRESSIONS]
ALL_FORMS = STATEMENTS + STATEMENTS_OF_EXPRESSIONS

GOOD = {"WORD": "w", "EXPRESSION": W, "BLOCK": (("get", "w"),)}
DEED_OF_COUNT = {0: "none", 2: "two", 4: "four"}


# Parts that fit at all places of a form; a deed has as many params as there are expressions behind it.
def good_parts(sorts):
    count = sorts.count("EXPRESSION")
    return [DEED_OF_COUNT[count] if sort == "DEED" else GOOD[sort] for sort in sorts]


# Parts that don't fit at a place of this sort, with the fault of each; the name is the mark's own.
def wrong_parts(sort, mark):
    unknown = "q" + mark
    if sort == "WORD":
        return [(unknown, ("unknown", unknown)), ("of", ("sort", "of")), ("vg", ("sort", "vg")),
                ("none", ("sort", "none"))]
    if sort == "DEED":
        return [(unknown, ("unknown", unknown)), ("ow", ("sort", "ow")), ("vw", ("sort", "vw")), ("y", ("sort", "y"))]
    if sort == "EXPRESSION":
        return [(("name", unknown), ("unknown", unknown)), (("name", "three"), ("sort", "three")),
                (("call", "z", ()), ("sort", "z")), (("call", "three", (W,)), ("count", "three"))]
    return [((("get", "x"), ("get", unknown)), ("unknown", unknown)), ((("do", "x", ()),), ("sort", "x")),
            ((("new", "w", "one"),), ("count", "one"))]


class Blocks(unittest.TestCase):
    def ask_unit(self, expected, unit, faces=FACES, face=OWN):
        with self.subTest(unit=unit):
            self.assertTrue(is_unit(unit))
            told = fault_of(unit, faces, face)
            self.assertEqual(told, expected)
            self.assertIs(type(told), type(expected))

    # In the unit's block, in that of a deed, and within other statements.
    def ask(self, expected, statement):
        self.ask_unit(expected, made([statement]))
        self.ask_unit(expected, made([("get", "w"), statement]))
        self.ask_unit(expected, made([], (deed("of", 1, [statement]),) + DEEDS[1:]))
        for wrap in STATEMENT_WRAPS:
            self.ask_unit(expected, made([wrap(statement)]))


class EachForm(Blocks):
    def test_all_that_fits(self):
        for form, sorts in ALL_FORMS:
            self.ask(None, form(*good_parts(sorts)))

    def test_each_place_by_itself(self):
        for form, sorts in ALL_FORMS:
            for place, sort in enumerate(sorts):
                for part, fault in wrong_parts(sort, "a"):
                    parts = good_parts(sorts)
                    parts[place] = part
                    self.ask(fault, form(*parts))

    def test_what_stands_ahead_first(self):
        for form, sorts in ALL_FORMS:
            for place, sort in enumerate(sorts):
                for later in range(place + 1, len(sorts)):
                    for part, fault in wrong_parts(sort, "a"):
                        for behind, hidden in wrong_parts(sorts[later], "b"):
                            parts = good_parts(sorts)
                            parts[place] = part
                            parts[later] = behind
                            self.ask_unit(fault, made([form(*parts)]))

    def test_a_number_means_nothing_that_could_be_wrong(self):
        for number in [0, 1, -999999, 999999]:
            self.ask(None, ("tell", ("number", number)))

    def test_statements_one_by_one(self):
        wrong = []
        for place, sorts in enumerate(ALL_FORMS):
            parts = good_parts(sorts[1])
            part, fault = wrong_parts(sorts[1][0], "xyz"[place % 3])[place % 3]
            wrong.append((sorts[0](*([part] + parts[1:])), fault))
        for one, fault in wrong:
            for other, later in wrong:
                self.ask_unit(fault, made([("get", "w"), one, other]))
                self.ask_unit(fault, made([("while", W, (one,)), other]))
                self.ask_unit(fault, made([("if", W, (one,), (other,))]))
                self.ask_unit(fault, made([("if", W, (), (one,)), other]))

    def test_deep_within(self):
        self.ask_unit(("unknown", "q"), made([nested(11, ("tell", ("name", "q")), STATEMENT_WRAPS[3])]))
        deeds = DEEDS[:1] + (deed("f", 1),)
        for wrap in EXPRESSION_WRAPS[:3]:
            self.ask_unit(None, made([("tell", nested(11, W, wrap))], deeds))
            self.ask_unit(("unknown", "q"), made([("tell", nested(11, ("name", "q"), wrap))], deeds))

    def test_an_empty_block(self):
        self.ask_unit(None, made())
        self.ask(None, ("if", ONE, (), ()))
        self.ask(None, ("while", ONE, ()))

    def test_a_long_block(self):
        block = [("tell", W)] * 3000
        self.ask_unit(None, made(block))
        self.ask_unit(("unknown", "q"), made(block + [("get", "q"), ("get", "r")]))


class Sorts(Blocks):
    def test_every_word_where_a_word_must_stand(self):
        for name in WORDS_AT_TOP:
            for statement in self.with_word(name):
                self.ask(None, statement)

    def test_every_deed_where_a_word_must_stand(self):
        for name in COUNTS_AT_TOP:
            for statement in self.with_word(name):
                self.ask(("sort", name), statement)

    def test_every_word_where_a_deed_must_stand(self):
        for name in WORDS_AT_TOP:
            for count in [0, 1, 4]:
                self.ask(("sort", name), ("do", name, (W,) * count))
                self.ask(("sort", name), ("tell", ("call", name, (W,) * count)))
            self.ask(("sort", name), ("new", "w", name))

    def test_names_that_mean_nothing(self):
        # The unit's own name, a unit that it takes from, what a face tells that is not taken, a param of a deed.
        for name in ["q", "u", "v", "pa", "leta", "number", "name"]:
            for statement in self.with_word(name):
                self.ask_unit(("unknown", name), made([statement]))
            for statement in [("do", name, ()), ("tell", ("call", name, ())), ("new", "w", name)]:
                self.ask_unit(("unknown", name), made([statement]))
        self.ask_unit(("unknown", "vw"), ("u", (("v", "vf"),), (), (), (("get", "vw"),)), FACES, None)

    def test_words_and_deeds_stand_apart(self):
        self.ask(None, ("new", "w", "none"))
        self.ask(("sort", "none"), ("new", "none", "none"))
        self.ask(("sort", "w"), ("new", "w", "w"))
        self.ask(None, ("await", "w", "w"))

    def with_word(self, name):
        return [("let", name, ONE), ("get", name), ("new", name, "none"), ("hand", name, ONE), ("await", name, "w"),
                ("await", "w", name), ("tell", ("name", name)), ("let", "w", ("+", ONE, ("name", name)))]


class Counts(Blocks):
    def test_of_a_call_and_of_a_do(self):
        for name, count in COUNTS_AT_TOP.items():
            for parts in range(5):
                expected = None if parts == count else ("count", name)
                self.ask(expected, ("do", name, (W,) * parts))
                self.ask(expected, ("tell", ("call", name, (W,) * parts)))

    def test_of_the_deed_of_a_new(self):
        for name, count in COUNTS_AT_TOP.items():
            self.ask(None if count == 0 else ("count", name), ("new", "w", name))

    def test_owns_are_not_counted(self):
        deeds = DEEDS[:1] + (("many", (), ("a", "b", "c", "d", "e", "f"), ()),)
        self.ask_unit(None, made([("new", "w", "many"), ("do", "many", ()), ("tell", ("call", "many", ()))], deeds))

    def test_asked_behind_the_parts(self):
        for wrong, fault in wrong_parts("EXPRESSION", "a"):
            for parts in [(wrong,), (W, wrong), (wrong, W, W), (W, W, W, wrong)]:
                for name in ["none", "three" if len(parts) < 3 else "two"]:
                    self.ask(fault, ("do", name, parts))
                    self.ask(fault, ("tell", ("call", name, parts)))

    def test_asked_ahead_of_what_stands_behind(self):
        short = ("call", "two", (W,))
        unknown = ("name", "q")
        self.ask(("count", "two"), ("tell", ("+", short, unknown)))
        self.ask(("unknown", "q"), ("tell", ("+", unknown, short)))
        self.ask(("count", "two"), ("do", "none", (short, unknown)))
        self.ask(("count", "two"), ("tell", ("call", "none", (short, unknown))))
        self.ask(("count", "two"), ("if", short, (("get", "q"),), ()))
        self.ask_unit(("count", "two"), made([("do", "two", (W,)), ("get", "q")]))
        self.ask_unit(("count", "two"), made([("new", "w", "two"), ("get", "q")]))

    def test_a_call_within_a_call(self):
        # The inner one is a part of the outer one, and so asked first.
        self.ask(("count", "two"), ("tell", ("call", "one", (("call", "two", (W,)), W))))
        self.ask(("count", "one"), ("tell", ("call", "one", (("call", "two", (W, W)), W))))
        self.ask(None, ("tell", ("call", "one", (("call", "two", (W, ("call", "none", ()))),))))

    def test_a_taken_deed_has_the_count_that_its_face_tells(self):
        for count in range(5):
            faces = {"v": ("v", (), (("vf", count),))}
            for parts in range(5):
                unit = ("u", (("v", "vf"),), (), (), (("do", "vf", (ONE,) * parts),))
                self.ask_unit(None if parts == count else ("count", "vf"), unit, faces, None)


class Hidden(Blocks):
    """Params and owns are words in the deed's block, and nowhere else."""

    def both_ways(self, name, block):
        return [("last", (name,), (), tuple(block)), ("last", (), (name,), tuple(block)),
                ("last", ("a", name), ("b", "c"), tuple(block)), ("last", ("a",), ("b", "c", name), tuple(block))]

    def test_a_name_that_means_nothing_else(self):
        block = [("let", "i", ("name", "i")), ("get", "i"), ("new", "i", "none"), ("hand", "i", ("name", "i")),
                 ("await", "i", "i"), ("do", "two", (("name", "i"), W)), ("tell", ("call", "one", (("name", "i"),)))]
        deeds = DEEDS[:4]
        for last in self.both_ways("i", block):
            self.ask_unit(None, made([], deeds + (last,)))
            self.ask_unit(("unknown", "i"), made([("get", "i")], deeds + (last,)))
            self.ask_unit(("unknown", "i"), made([], deeds + (last, deed("after", 0, [("get", "i")]))))
            self.ask_unit(("unknown", "i"), made([], deeds + (deed("ahead", 0, [("get", "i")]), last)))

    def test_where_a_deed_must_stand(self):
        for statement in [("do", "i", ()), ("do", "i", (W,)), ("tell", ("call", "i", ())), ("new", "w", "i")]:
            for last in self.both_ways("i", [statement]):
                self.ask_unit(("sort", "i"), made([], DEEDS[:1] + (last,)))

    def test_a_deed_is_hidden(self):
        # The own face's, a taken one, the unit's own, and the very deed in whose block it stands.
        deeds = DEEDS[:1] + (deed("none"),)
        for name in ["of", "vf", "vg", "none", "last"]:
            for last in self.both_ways(name, [("get", name), ("tell", ("name", name))]):
                self.ask_unit(None, made([], deeds + (last,)))
                self.ask_unit(("sort", name), made([("get", name)], deeds + (last,)))
            for statement in [("do", name, ()), ("tell", ("call", name, (W,))), ("new", "w", name)]:
                for last in self.both_ways(name, [statement]):
                    self.ask_unit(("sort", name), made([], deeds + (last,)))

    def test_outside_of_the_deed_nothing_is_hidden(self):
        use = [("do", "none", ()), ("new", "w", "vg"), ("tell", ("call", "of", (W,)))]
        hiding = ("last", ("none", "vg"), ("of",), ())
        deeds = DEEDS[:1] + (deed("ahead", 0, use), hiding, deed("none", 0, use))
        self.ask_unit(None, made(use, deeds))

    def test_a_word_is_hidden_by_a_word(self):
        for name in WORDS_AT_TOP:
            for last in self.both_ways(name, [("get", name), ("tell", ("name", name))]):
                self.ask_unit(None, made([("get", name)], DEEDS[:1] + (last,)))
            for last in self.both_ways(name, [("do", name, ())]):
                self.ask_unit(("sort", name), made([], DEEDS[:1] + (last,)))

    def test_other_names_of_the_top_are_seen(self):
        block = [("let", name, ("name", "i")) for name in WORDS_AT_TOP] + [("do", "of", (W,)), ("do", "vg", ())]
        for last in self.both_ways("i", block):
            self.ask_unit(None, made([], DEEDS[:1] + (last,)))

    def test_each_param_and_own_up_to_the_last(self):
        params, owns = tuple("abcd"), tuple("efghij")
        for name in params + owns:
            self.ask_unit(None, made([], DEEDS[:1] + (("last", params, owns, (("get", name),)),)))
            self.ask_unit(("sort", name), made([], DEEDS[:1] + (("last", params, owns, (("do", name, ()),)),)))

    def test_hidden_within_inner_blocks_too(self):
        for wrap in STATEMENT_WRAPS:
            last = ("last", ("x",), ("none",), (wrap(("get", "none")),))
            self.ask_unit(None, made([], DEEDS[:2] + (last,)))

    def test_a_hidden_deed_of_the_own_face_is_not_lacked(self):
        self.ask_unit(None, ("u", (), (), (("of", ("of",), (), (("give", ("name", "of")),)),), ()), {}, OWN)
        self.ask_unit(("lacks", "of"), ("u", (), (), (("last", ("of",), (), ()),), ()), {}, OWN)


class WhichBlock(Blocks):
    def test_the_deeds_one_by_one_and_then_the_unit(self):
        places = [("sort", "none"), ("unknown", "qa"), ("count", "one"), ("unknown", "qb")]
        wrong = [("get", "none"), ("get", "qa"), ("new", "w", "one"), ("get", "qb")]
        for first in range(4):
            blocks = [[] if place < first else [wrong[place]] for place in range(4)]
            deeds = (deed("of", 1, blocks[0]), deed("none", 0, blocks[1]), deed("one", 1, blocks[2]))
            self.ask_unit(places[first], made(blocks[3], deeds))
            alone = [[wrong[place]] if place == first else [] for place in range(4)]
            deeds = (deed("of", 1, alone[0]), deed("none", 0, alone[1]), deed("one", 1, alone[2]))
            self.ask_unit(places[first], made(alone[3], deeds))

    def test_a_deed_is_called_from_every_block(self):
        # From its own, from those ahead of it and behind it, and from the unit's.
        calls = [("do", "of", (W,)), ("do", "none", ()), ("tell", ("call", "two", (W, W))), ("new", "w", "none"),
                 ("do", "vf", (W, W))]
        deeds = (deed("none", 0, calls), deed("two", 2, calls), deed("of", 1, calls))
        self.ask_unit(None, made(calls, deeds))
        for place in range(3):
            turned = deeds[place:] + deeds[:place]
            self.ask_unit(None, made(calls, turned))

    def test_a_wrong_call_in_every_block(self):
        for call, fault in [(("do", "two", (W,)), ("count", "two")), (("get", "two"), ("sort", "two"))]:
            for place in range(3):
                deeds = [deed("none"), deed("two", 2), deed("of", 1)]
                name, params, owns, block = deeds[place]
                deeds[place] = (name, params, owns, (call,))
                self.ask_unit(fault, made([], deeds))
            self.ask_unit(fault, made([call], deeds[:2] + [deed("of", 1)]))

    def test_a_give_in_the_unit_s_block(self):
        self.ask_unit(None, made([("give", W)]))
        self.ask_unit(("unknown", "q"), made([("give", W), ("get", "q")]))
