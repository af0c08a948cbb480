import unittest

from joinmill.meaning import fault_of
from joinmill.things import is_face, is_unit

OWN = ("u", ("ow", "ox"), (("of", 1), ("og", 0)))
FACES = {
    "u": OWN,
    "v": ("v", ("vw", "vx"), (("vf", 1), ("vg", 0))),
    # Tells what the face of v and the own face tell too.
    "t": ("t", ("tw", "vw", "ow"), (("vf", 3), ("of", 1))),
    "bare": ("bare", (), ()),
}
TAKES = (("v", "vw"), ("t", "tw"), ("v", "vf"))
WORDS = ("w", "x")


def deed(name, count=0, block=()):
    return (name, tuple("abcdefgh"[:count]), (), block)


DEEDS = (deed("f", 2), deed("of", 1), deed("g"), deed("og"))


def made(takes=TAKES, words=WORDS, deeds=DEEDS, block=()):
    return ("u", tuple(takes), tuple(words), tuple(deeds), tuple(block))


# Each a take and the fault that it has behind the takes above.
WRONG_TAKES = [
    (("nope", "vx"), ("noface", "nope")),
    (("w", "w"), ("noface", "w")),
    (("u", "ow"), ("noface", "u")),
    (("u", "of"), ("noface", "u")),
    (("u", "zz"), ("noface", "u")),
    (("v", "zz"), ("nottold", "zz")),
    (("v", "tw"), ("nottold", "tw")),
    (("v", "ow"), ("nottold", "ow")),
    (("v", "v"), ("nottold", "v")),
    (("bare", "vw"), ("nottold", "vw")),
    (("v", "vw"), ("twice", "vw")),
    (("v", "vf"), ("twice", "vf")),
    (("t", "vw"), ("twice", "vw")),
    (("t", "vf"), ("twice", "vf")),
    (("t", "ow"), ("twice", "ow")),
    (("t", "of"), ("twice", "of")),
]

WRONG_WORDS = [(name, ("twice", name)) for name in ["w", "x", "ow", "ox", "of", "og", "vw", "tw", "vf"]]

# Each a deed and the fault that it has behind the deeds above.
WRONG_DEEDS = [(deed(name, count), ("twice", name)) for name in ["f", "g", "w", "x", "ow", "ox", "vw", "tw", "vf", "of",
                                                                "og"] for count in [0, 1, 2]]

# Statements of which each has a fault wherever it stands.
WRONG_STATEMENTS = [
    (("get", "zz"), ("unknown", "zz")),
    (("get", "f"), ("sort", "f")),
    (("do", "w", ()), ("sort", "w")),
    (("do", "og", (("number", 1),)), ("count", "og")),
    (("new", "w", "of"), ("count", "of")),
]


class Top(unittest.TestCase):
    def ask(self, expected, unit, faces=FACES, face=OWN):
        with self.subTest(unit=unit, faces=faces, face=face):
            self.assertTrue(is_unit(unit))
            told = fault_of(unit, faces, face)
            self.assertEqual(told, expected)
            self.assertIs(type(told), type(expected))


class Fit(Top):
    def test_the_faces_of_these_tests(self):
        for name, face in FACES.items():
            self.assertTrue(is_face(face))
            self.assertEqual(face[0], name)

    def test_a_unit_that_fits(self):
        self.ask(None, made())

    def test_the_least_unit(self):
        self.ask(None, ("u", (), (), (), ()), {}, None)
        self.ask(None, ("u", (), (), (), ()), FACES, None)
        self.ask(None, ("u", (), (), (), ()), {}, ("u", (), ()))

    def test_the_own_face_need_not_be_among_the_faces(self):
        others = {name: face for name, face in FACES.items() if name != "u"}
        self.ask(None, made(), others)
        self.ask(("noface", "u"), made(takes=[("u", "ow")]), others)

    def test_without_a_face_of_its_own(self):
        self.ask(None, made(), FACES, None)
        self.ask(None, made(words=["ow", "ox"], deeds=[]), FACES, None)
        self.ask(None, made(takes=[("t", "ow"), ("t", "of")], deeds=[]), FACES, None)
        self.ask(None, made(deeds=[deed("of", 3), deed("ow")]), FACES, None)
        self.ask(("twice", "of"), made(deeds=[deed("of", 1), deed("of", 1)]), FACES, None)
        self.ask(("unknown", "ow"), made(deeds=[], block=[("get", "ow")]), FACES, None)

    def test_its_own_face_is_the_one_handed_in(self):
        # Among the faces is another one of this name.
        self.ask(None, ("u", (), ("ow",), (), (("get", "ow"),)), FACES, ("u", ("other",), ()))
        self.ask(("unknown", "ow"), ("u", (), (), (), (("get", "ow"),)), FACES, ("u", ("other",), ()))
        self.ask(("lacks", "zf"), ("u", (), (), (), ()), FACES, ("u", (), (("zf", 0),)))

    def test_names_of_units_take_no_place_at_the_top(self):
        self.ask(None, ("u", (("v", "vw"),), ("u", "v", "bare"), (deed("t"),), (("get", "u"), ("get", "v"))), FACES, None)
        self.ask(("unknown", "u"), ("u", (("v", "vw"),), (), (), (("get", "u"),)), FACES, None)
        self.ask(("unknown", "v"), ("u", (("v", "vw"),), (), (), (("get", "v"),)), FACES, None)

    def test_what_is_not_taken_takes_no_place_at_the_top(self):
        self.ask(None, made(words=["w", "vx"], deeds=DEEDS + (deed("vg", 2),)))

    def test_all_that_may_stand_at_the_top(self):
        own = ("u", tuple("abcdef"), tuple([(name, 4) for name in "ghijkl"]))
        many = {"m": ("m", tuple("mnopqr"), (("s", 0), ("t", 1)))}
        takes = tuple([("m", name) for name in "mnopqrst"])
        deeds = tuple([deed(name, 4) for name in "lkjihg"])
        self.ask(None, ("u", takes, ("ba", "bb", "bc", "bd", "bf", "bg"), deeds, ()), many, own)

    def test_the_deeds_of_the_own_face_in_any_order(self):
        self.ask(None, made(deeds=[deed("og"), deed("of", 1)]))
        self.ask(None, made(deeds=[deed("of", 1), deed("g"), deed("og")]))

    def test_owns_are_no_params(self):
        own = ("u", (), (("of", 1),))
        self.ask(None, ("u", (), (), (("of", ("a",), ("b", "c"), ()),), ()), {}, own)
        self.ask(("count", "of"), ("u", (), (), (("of", (), ("a",), ()),), ()), {}, own)


class Takes(Top):
    def test_each_fault_by_itself(self):
        for take, fault in WRONG_TAKES:
            self.ask(fault, made(takes=TAKES + (take,)))

    def test_the_first_of_two(self):
        for one, fault in WRONG_TAKES:
            for other, later in WRONG_TAKES:
                self.ask(fault, made(takes=TAKES + (one, other)))
                self.ask(fault, made(takes=TAKES + (one, ("v", "vx"), other)))

    def test_no_faces_at_all(self):
        self.ask(("noface", "v"), made(), {}, OWN)
        self.ask(("noface", "t"), made(takes=[("t", "vw"), ("v", "vw")]), {"v": FACES["v"]}, OWN)

    def test_taken_twice_from_the_start(self):
        self.ask(("twice", "vw"), made(takes=[("v", "vw"), ("v", "vw")]))
        self.ask(("twice", "vw"), made(takes=[("t", "vw"), ("v", "vw")]))
        self.ask(None, made(takes=[("v", "vw"), ("v", "vx"), ("v", "vf"), ("v", "vg")]))

    def test_several_faults_of_one_take(self):
        # Of its own name, and not told, and at the top already; not told, and at the top already.
        self.ask(("noface", "u"), made(takes=[("v", "vw"), ("u", "vw")]))
        self.ask(("noface", "nope"), made(takes=[("v", "vw"), ("nope", "vw")]))
        self.ask(("noface", "nope"), made(takes=[("nope", "ow")]))
        self.ask(("nottold", "ow"), made(takes=[("v", "ow")]))

    def test_a_word_and_a_deed_further_down_are_not_at_the_top_yet(self):
        # So the take is no fault, but what stands behind it is.
        self.ask(("twice", "vx"), made(takes=[("v", "vx")], words=["w", "vx"]))
        self.ask(("twice", "vg"), made(takes=[("v", "vg")], deeds=DEEDS + (deed("vg"),)))


class Words(Top):
    def test_each_fault_by_itself(self):
        for name, fault in WRONG_WORDS:
            self.ask(fault, made(words=WORDS + (name,)))

    def test_ahead_of_the_other_words(self):
        for name, fault in WRONG_WORDS:
            self.ask(fault, made(words=(name,) + WORDS))

    def test_the_first_of_two(self):
        for one, fault in WRONG_WORDS:
            for other, later in WRONG_WORDS:
                self.ask(fault, made(words=WORDS + (one, other)))


class Deeds(Top):
    def test_twice(self):
        for wrong, fault in WRONG_DEEDS:
            self.ask(fault, made(deeds=DEEDS + (wrong,)))

    def test_the_first_of_two(self):
        for one, fault in WRONG_DEEDS:
            for other, later in WRONG_DEEDS:
                self.ask(fault, made(deeds=DEEDS + (one, other)))

    def test_a_deed_of_the_own_face_with_another_count(self):
        for count in [0, 2, 3, 4]:
            self.ask(("count", "of"), made(deeds=[deed("of", count), deed("og")]))
            self.ask(("count", "of"), made(deeds=[deed("f"), deed("og"), deed("of", count)]))
        for count in [1, 2, 3, 4]:
            self.ask(("count", "og"), made(deeds=[deed("of", 1), deed("og", count)]))

    def test_the_first_counts(self):
        # The second time it is twice, whatever its count is.
        self.ask(("count", "of"), made(deeds=[deed("of", 0), deed("of", 1), deed("og")]))
        self.ask(("twice", "of"), made(deeds=[deed("of", 1), deed("of", 0), deed("og")]))
        self.ask(("twice", "og"), made(deeds=[deed("og"), deed("og"), deed("of", 0)]))

    def test_twice_and_count_one_by_one(self):
        self.ask(("count", "of"), made(deeds=[deed("of"), deed("w"), deed("og", 1)]))
        self.ask(("twice", "w"), made(deeds=[deed("w"), deed("of"), deed("og", 1)]))
        self.ask(("count", "og"), made(deeds=[deed("og", 1), deed("f"), deed("f"), deed("of")]))
        self.ask(("twice", "f"), made(deeds=[deed("f"), deed("f"), deed("og", 1), deed("of")]))

    def test_other_deeds_may_have_any_count(self):
        for count in range(5):
            self.ask(None, made(deeds=DEEDS + (deed("h", count),)))

    def test_called_like_what_others_tell_but_is_not_taken(self):
        self.ask(None, made(takes=[("v", "vw")], deeds=DEEDS + (deed("vf", 4),)))


class Lacks(Top):
    def test_by_itself(self):
        self.ask(("lacks", "of"), made(deeds=[deed("og")]))
        self.ask(("lacks", "og"), made(deeds=[deed("of", 1)]))
        self.ask(("lacks", "og"), made(deeds=[deed("f"), deed("of", 1), deed("g")]))

    def test_the_first_of_the_own_face(self):
        self.ask(("lacks", "of"), made(deeds=[]))
        self.ask(("lacks", "of"), made(deeds=[deed("f")]))
        self.ask(("lacks", "og"), made(deeds=[]), FACES, ("u", (), (("og", 0), ("of", 1))))
        self.ask(("lacks", "b"), made(deeds=[deed("a"), deed("c")]), FACES,
                 ("u", (), (("c", 0), ("b", 0), ("a", 0), ("d", 0))))

    def test_words_of_the_own_face_are_not_lacked(self):
        self.ask(None, ("u", (), (), (), ()), {}, ("u", tuple("abcdef"), ()))

    def test_what_is_taken_does_not_stand_for_it(self):
        self.ask(("lacks", "vg"), ("u", (("v", "vf"),), (), (), ()), FACES, ("u", (), (("vg", 0),)))


class Between(Top):
    """Faults of the takes, the words, the deeds, of lacks and of the blocks: the one asked earlier is told."""

    # Each a group of edits, in the order in which faults are asked.
    def groups(self):
        missing = [deed("f", 2), deed("g"), deed("of", 1)]
        return [
            [("takes", TAKES + (take,), fault) for take, fault in WRONG_TAKES],
            [("words", WORDS + (name,), fault) for name, fault in WRONG_WORDS],
            [("deeds", missing + [wrong], fault) for wrong, fault in WRONG_DEEDS if wrong[0] != "og"]
            + [("deeds", [deed("f", 2), deed("g"), deed("of", 3)], ("count", "of"))],
            [("deeds", missing, ("lacks", "og"))],
            [("block", [statement], fault) for statement, fault in WRONG_STATEMENTS],
        ]

    def test_any_two(self):
        groups = self.groups()
        for place, group in enumerate(groups):
            for field, parts, fault in group:
                self.ask(fault, made(**{field: parts}))
                for later in groups[place + 1:]:
                    for other, others, behind in later:
                        if other != field:
                            self.ask(fault, made(**{other: others, field: parts}))

    def test_all_at_once(self):
        wrong = dict(takes=TAKES + (("v", "zz"),), words=WORDS + ("w",), deeds=[deed("x"), deed("of", 2)],
                     block=[("get", "zx")])
        self.ask(("nottold", "zz"), made(**wrong))
        wrong["takes"] = TAKES
        self.ask(("twice", "w"), made(**wrong))
        wrong["words"] = WORDS
        self.ask(("twice", "x"), made(**wrong))
        wrong["deeds"] = [deed("of", 2)]
        self.ask(("count", "of"), made(**wrong))
        wrong["deeds"] = [deed("of", 1)]
        self.ask(("lacks", "og"), made(**wrong))
        wrong["deeds"] = [deed("of", 1), deed("og")]
        self.ask(("unknown", "zx"), made(**wrong))
        wrong["block"] = []
        self.ask(None, made(**wrong))

    def test_the_block_of_a_deed_behind_all_the_deeds_and_lacks(self):
        broken = deed("h", 0, (("get", "zz"),))
        self.ask(("unknown", "zz"), made(deeds=(broken,) + DEEDS))
        self.ask(("twice", "w"), made(deeds=(broken,) + DEEDS + (deed("w"),)))
        self.ask(("count", "of"), made(deeds=[broken, deed("of", 2), deed("og")]))
        self.ask(("lacks", "og"), made(deeds=[broken, deed("of", 1)]))


class HandedIn(Top):
    def units(self):
        return ([made()] + [made(takes=TAKES + (take,)) for take, fault in WRONG_TAKES]
                + [made(words=WORDS + (name,)) for name, fault in WRONG_WORDS]
                + [made(deeds=DEEDS + (wrong,)) for wrong, fault in WRONG_DEEDS]
                + [made(block=[statement]) for statement, fault in WRONG_STATEMENTS])

    def test_the_dict_of_faces_stays_as_it_was(self):
        for unit in self.units():
            faces = dict(FACES)
            fault_of(unit, faces, OWN)
            self.assertEqual(list(faces.items()), list(FACES.items()))

    def test_asked_again_the_same(self):
        for unit in self.units():
            self.assertEqual(fault_of(unit, FACES, OWN), fault_of(unit, FACES, OWN))

    def test_nothing_of_an_earlier_asking_is_kept(self):
        faces = dict(FACES)
        self.assertIsNone(fault_of(made(), faces, OWN))
        faces.pop("t")
        self.assertEqual(fault_of(made(), faces, OWN), ("noface", "t"))
        faces["t"] = ("t", ("other",), ())
        told = fault_of(made(), faces, OWN)
        faces.clear()
        self.assertEqual(told, ("nottold", "tw"))
        self.assertIsNone(fault_of(made(), FACES, OWN))
        self.assertEqual(fault_of(made(deeds=[]), FACES, OWN), ("lacks", "of"))
        self.assertIsNone(fault_of(made(), FACES, OWN))
