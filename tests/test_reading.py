import unittest

from joinmill.errors import NoText
from joinmill.reading import read
from joinmill.things import is_face, is_unit
from joinmill.writing import written
from tests.samples import (
    BARE, DEEDS, EXPRESSION_WRAPS, EXPRESSIONS, FACES, HOLDERS, KEPT, ONE, STATEMENT_WRAPS, STATEMENTS, UNITS, kinds,
    nested, unit_of, unit_of_deed,
)

THINGS = [thing for thing, text in FACES + UNITS]
TEXTS = [text for thing, text in FACES + UNITS]


class Reading(unittest.TestCase):
    def same(self, thing, again):
        self.assertEqual(again, thing)
        self.assertEqual(kinds(again), kinds(thing))

    def refuse(self, text):
        with self.assertRaises(NoText) as caught:
            read(text)
        self.assertIs(type(caught.exception), NoText)

    def refuse_all(self, texts):
        for text in texts:
            with self.subTest(text=text[:200]):
                self.refuse(text)


class Read(Reading):
    def test_texts_written_by_hand(self):
        for thing, text in FACES + UNITS:
            with self.subTest(text=text):
                self.same(thing, read(text))

    def test_what_is_written_is_read(self):
        for thing in THINGS + self.units_of_every_form():
            with self.subTest(thing=thing):
                self.same(thing, read(written(thing)))

    def test_asked_again(self):
        for text in TEXTS:
            self.same(read(text), read(text))

    def test_as_deep_as_may_be(self):
        for wrap in STATEMENT_WRAPS:
            for bare in BARE:
                unit = unit_of((nested(12, bare, wrap),))
                self.same(unit, read(written(unit)))
                unit = unit_of_deed(("f", (), (), (nested(12, bare, wrap),)))
                self.same(unit, read(written(unit)))
        for wrap in EXPRESSION_WRAPS:
            for hold in HOLDERS:
                for statements in range(12):
                    statement = hold(nested(11 - statements, ONE, wrap))
                    unit = unit_of((nested(statements, statement, STATEMENT_WRAPS[0]),))
                    self.same(unit, read(written(unit)))

    def test_a_long_block(self):
        unit = unit_of(tuple([("tell", ("number", number)) for number in range(-1500, 1500)]))
        self.same(unit, read(written(unit)))

    def units_of_every_form(self):
        units = [unit_of_deed(deed) for deed, text in DEEDS]
        for statement, text in STATEMENTS:
            units.append(unit_of((statement,)))
            units.append(unit_of_deed(("f", ("x",), ("y", "z"), (statement, statement))))
            units.extend([unit_of((wrap(statement),)) for wrap in STATEMENT_WRAPS])
        for expression, text in EXPRESSIONS:
            units.extend([unit_of((hold(expression),)) for hold in HOLDERS])
            units.extend([unit_of((("give", wrap(expression)),)) for wrap in EXPRESSION_WRAPS])
        return units


class Refused(Reading):
    def test_blanks_more(self):
        for text in TEXTS:
            self.refuse_all([" " + text, text + " ", "  " + text, text + "  "])
            words = text.split(" ")
            for place in range(1, len(words)):
                with self.subTest(text=text, place=place):
                    self.refuse(" ".join(words[:place]) + "  " + " ".join(words[place:]))

    def test_tabs_and_rows_ends(self):
        for text in TEXTS:
            words = text.split(" ")
            for other in ["\t", "\n", "\r", "\r\n"]:
                self.refuse_all([other + text, text + other, " ".join(words[:-1]) + " " + other + words[-1]])
                for place in range(1, len(words)):
                    before = " ".join(words[:place])
                    behind = " ".join(words[place:])
                    with self.subTest(text=text, place=place, other=other):
                        self.refuse(before + other + behind)
                        self.refuse(before + other + " " + behind)
                        self.refuse(before + " " + other + behind)
                        self.refuse(before + " " + other + " " + behind)

    def test_no_words(self):
        self.refuse_all(["", " ", "  ", "\t", "\n", "\n\n"])

    def test_words_run_together(self):
        for text in TEXTS:
            words = text.split(" ")
            self.refuse_all(["".join(words), words[0] + words[1] + " " + " ".join(words[2:]), " ".join(words[:-2]) + " "
                             + words[-2] + words[-1]])

    def test_numbers_in_another_writing(self):
        wrong = ["00", "-0", "+0", "+1", "01", "-01", "007", "000000", "-00", "--1", "1-", "-", "1.0", "1e3", "1_0",
                 "0x1", "1000000", "-1000000", "9999999", "10000000", "9" * 30, "-" + "9" * 30, "9" * 5000,
                 "-" + "9" * 5000, "0" * 5000, "0" * 5000 + "1", "-" + "0" * 5000, "+" + "9" * 5000, "1" * 100000, "",
                 "- 1", "+ 1", "1 2", "1,", "(1)", "'1'"]
        self.refuse_all(["unit u do give " + number + " end done" for number in wrong])
        self.refuse_all(["unit u do if < " + number + " 1 then end else end end done" for number in wrong
                         if number not in ["-", "- 1", "+ 1"]])
        self.same(unit_of((("give", ("-", ONE, ONE)),)), read("unit u do give - 1 1 end done"))

    def test_counts_of_parts(self):
        wrong = ["0", "1", "3", "4", "5", "-1", "-2", "02", "+2", "2.0", "", "x", "two", "-0", "999999", "9" * 5000]
        for before, behind in [("do do f ", " x y end done"), ("do tell call f ", " x y end done"),
                               ("do give + call f ", " x y z end done")]:
            # Where the count is right, all is.
            read("unit u " + before + "2" + behind)
            self.refuse_all(["unit u " + before + count + behind for count in wrong])
        self.refuse_all(["unit u do do f end done", "unit u do do f x y end done", "unit u do do f -1 end done",
                         "unit u do do f -0 end done", "unit u do do f 5 1 1 1 1 1 end done",
                         "unit u do give call f 5 1 1 1 1 1 end done", "unit u do give call f -1 end done",
                         "unit u do give call f end done"])

    def test_counts_of_a_face(self):
        read("face a deed f 4 done")
        wrong = ["5", "-1", "00", "01", "-0", "+1", "", "x", "done", "1 1", "999999", "1000000", "9" * 5000]
        self.refuse_all(["face a deed f " + count + " done" for count in wrong])
        self.refuse_all(["face a deed f done", "face a deed 0 done"])

    def test_kept_words_and_other_texts_as_names(self):
        forms = ["face {} done", "face a word {} done", "face a deed {} 0 done", "unit {} do end done",
                 "unit u take {} from v do end done", "unit u take x from {} do end done", "unit u word {} do end done",
                 "unit u deed {} with own do end do end done", "unit u deed f with {} own do end do end done",
                 "unit u deed f with own {} do end do end done", "unit u do let {} be 1 end done",
                 "unit u do do {} 0 end done", "unit u do get {} end done", "unit u do new {} deed f end done",
                 "unit u do new x deed {} end done", "unit u do hand {} to 1 end done",
                 "unit u do await {} and x end done", "unit u do await x and {} end done",
                 "unit u do give call {} 0 end done", "unit u do give {} end done"]
        wrong = ["abcdefghi", "A", "aB", "a1", "a_b", "a.b", "_", "", "a" * 5000, "{}"] + KEPT
        for form in forms:
            read(form.replace("{}", "abcdefgh"))
            self.refuse_all([form.replace("{}", name) for name in wrong])
        self.refuse_all([form.replace("{}", "1") for form in forms[:-1]])

    def test_what_is_no_face_and_no_unit(self):
        self.refuse_all([text for thing, text in EXPRESSIONS + STATEMENTS + DEEDS])
        self.refuse_all([text + " end" for thing, text in STATEMENTS])
        self.refuse_all(KEPT + ["x", "0", "end", "face", "unit", "face a", "unit u", "do end", "unit u done",
                                "unit u do done", "unit u do end", "face a do end done", "unit u face a done",
                                "face a done face a done", "unit u do end done unit u do end done"])

    def test_bounds(self):
        def many(count, form):
            return "".join([form.replace("{}", "abcdefghi"[place]) for place in range(count)])

        forms = [
            (6, "face a ", "word {} ", "done"), (6, "face a ", "deed {} 0 ", "done"),
            (8, "unit u ", "take {} from v ", "do end done"), (6, "unit u ", "word {} ", "do end done"),
            (6, "unit u ", "deed {} with own do end ", "do end done"),
            (4, "unit u deed f with ", "{} ", "own do end do end done"),
            (6, "unit u deed f with own ", "{} ", "do end do end done"),
        ]
        for most, before, form, behind in forms:
            with self.subTest(form=form, before=before):
                for count in range(most + 1):
                    read(before + many(count, form) + behind)
                self.refuse(before + many(most + 1, form) + behind)

    def test_names_that_must_be_unlike(self):
        self.refuse_all(["face a word b word b done", "face a deed b 0 deed b 1 done", "face a word b deed b 0 done",
                         "unit u deed f with a a own do end do end done",
                         "unit u deed f with own a a do end do end done",
                         "unit u deed f with a own a do end do end done"])

    def test_parts_in_another_order(self):
        self.refuse_all(["face a deed b 0 word c done", "unit u word w take x from v do end done",
                         "unit u deed f with own do end word w do end done",
                         "unit u deed f with own do end take x from v do end done",
                         "unit u do end word w done", "unit u do end deed f with own do end done",
                         "unit u from v take x do end done", "unit u do 1 tell end done",
                         "unit u do let x 1 be end done", "unit u do give 1 + 2 end done",
                         "unit u do if 1 else end then end end done"])

    def test_too_deep(self):
        for wrap, before, behind in self.statement_nests():
            with self.subTest(before=before):
                self.same(unit_of((nested(12, ("get", "x"), wrap),)), read(self.statements(12, before, behind)))
                self.refuse_all([self.statements(count, before, behind) for count in [13, 14, 40, 400, 5000]])
        for wrap, before, behind in self.expression_nests():
            with self.subTest(before=before):
                self.same(unit_of((("give", nested(11, ONE, wrap)),)), read(self.expressions(11, before, behind)))
                self.refuse_all([self.expressions(count, before, behind) for count in [12, 13, 40, 400, 5000]])

    def test_too_deep_and_broken_off(self):
        for sign in ["+ ", "- ", "* ", "< ", "= ", "call f 1 ", "call f 4 1 1 1 ", "while 1 do ", "if 1 then ",
                     "if 1 then end else ", "do f 1 ", "give ", "while "]:
            for count in [13, 300, 5000]:
                self.refuse_all(["unit u do give " + sign * count, "unit u do " + sign * count + "end done",
                                 sign * count, "face a " + sign * count])

    def test_too_deep_in_both(self):
        for statements in range(12):
            inner = "give " + "+ 1 " * (11 - statements) + "1"
            beyond = "give " + "+ 1 " * (12 - statements) + "1"
            before = "unit u do " + "while 1 do " * statements
            behind = " end" * statements + " end done"
            read(before + inner + behind)
            self.refuse(before + beyond + behind)
        self.refuse("unit u do " + "while 1 do " * 12 + "get x give 1" + " end" * 12 + " end done")
        self.refuse("unit u do " + "while 1 do " * 13 + "end " * 13 + "end done")

    def statement_nests(self):
        return [(STATEMENT_WRAPS[0], "while 1 do ", " end"), (STATEMENT_WRAPS[1], "while x do get x ", " end"),
                (STATEMENT_WRAPS[2], "if 1 then ", " end else end"),
                (STATEMENT_WRAPS[3], "if 1 then end else get x ", " end")]

    def expression_nests(self):
        return [(EXPRESSION_WRAPS[0], "+ ", " 1"), (EXPRESSION_WRAPS[1], "= 1 ", ""),
                (EXPRESSION_WRAPS[2], "call f 1 ", ""), (EXPRESSION_WRAPS[3], "call f 4 1 x 1 ", "")]

    def statements(self, count, before, behind):
        return "unit u do " + before * count + "get x" + behind * count + " end done"

    def expressions(self, count, before, behind):
        return "unit u do give " + before * count + "1" + behind * count + " end done"


class OneWordOff(Reading):
    # Whatever is done to one word, the text is refused, or it is the very writing of what is read.
    def judge(self, words):
        text = " ".join(words)
        try:
            thing = read(text)
        except NoText:
            return
        self.assertTrue(is_face(thing) or is_unit(thing))
        self.assertEqual(written(thing), text)

    def test_a_word_less(self):
        for text in TEXTS:
            words = text.split(" ")
            for place in range(len(words)):
                self.judge(words[:place] + words[place + 1:])
            for count in range(len(words)):
                self.refuse(" ".join(words[:count]))
                self.refuse(" ".join(words[count + 1:]))

    def test_a_word_more_or_another_word(self):
        others = KEPT + ["+", "-", "a", "x", "abcdefghi", "0", "1", "2", "5", "-1", "-0", "00", "1000000", "", "A"]
        for text in TEXTS:
            words = text.split(" ")
            for place in range(len(words)):
                for other in others:
                    self.judge(words[:place] + [other] + words[place:])
                    self.judge(words[:place] + [other] + words[place + 1:])
            for other in others:
                self.refuse(" ".join(words + [other]))
                self.refuse(" ".join([other] + words))
