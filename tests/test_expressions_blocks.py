import unittest

from joinmill.things import is_block, is_expression
from tests.samples import (
    BARE, EXPRESSION_WRAPS, EXPRESSIONS, HOLDERS, ODD, ONE, STATEMENT_WRAPS, STATEMENTS, nested, places, replaced,
)


class Expressions(unittest.TestCase):
    def test_each_form(self):
        for expression, text in EXPRESSIONS:
            with self.subTest(text=text):
                self.assertIs(is_expression(expression), True)

    def test_other_things(self):
        things = [
            (), ("number",), ("number", 1, 1), ("number", True), ("number", False), ("number", None), ("number", "1"),
            ("number", (1,)), ("number", 1000000), ("number", -1000000), ("number", ONE),
            ("name",), ("name", "x", "y"), ("name", 1), ("name", ""), ("name", "do"), ("name", "abcdefghi"),
            ("name", ("x",)), ("name", ["x"]), ("name", None),
            ("call",), ("call", "f"), ("call", "f", (), ()), ("call", ()), ("call", "end", ()), ("call", 1, ()),
            ("call", ("name", "f"), ()), ("call", "f", ONE), ("call", "f", 0), ("call", "f", None), ("call", "f", ""),
            ("call", "f", (1,)), ("call", "f", ("x",)), ("call", "f", (ONE, None)), ("call", "f", ((),)),
            ("call", "f", (ONE, ONE, ONE, ONE, ONE)),
            ("+",), ("+", ONE), ("+", ONE, ONE, ONE), ("+", 1, 1), ("+", ONE, 1), ("+", "x", ONE), ("+", ONE, ()),
            ("+", ONE, None), ("+", (), ONE), ("+", ONE, ("get", "x")),
            ("/", ONE, ONE), (">", ONE, ONE), ("", ONE, ONE), ("+-", ONE, ONE), ("==", ONE, ONE), ("x", ONE, ONE),
            (("+",), ONE, ONE), (["+"], ONE, ONE), (None, ONE, ONE), (True, ONE, ONE), (1, ONE, ONE),
            ("let", "x", ONE), ("do", "f", ()), ("give", ONE), (ONE,), "x", 1, "number",
        ]
        for thing in things:
            with self.subTest(thing=thing):
                self.assertIs(is_expression(thing), False)

    def test_odd_things(self):
        for place, thing in enumerate(ODD):
            with self.subTest(place=place):
                self.assertIs(is_expression(thing), False)

    def test_a_list_in_the_place_of_any_tuple(self):
        for expression, text in EXPRESSIONS:
            for path, part in places(expression):
                if isinstance(part, tuple):
                    with self.subTest(text=text, path=path):
                        self.assertIs(is_expression(replaced(expression, path, list(part))), False)

    def test_how_deep(self):
        for wrap in EXPRESSION_WRAPS:
            for leaf in [ONE, ("name", "x"), ("call", "f", ())]:
                with self.subTest(shown=wrap(leaf)):
                    self.assertIs(is_expression(nested(12, leaf, wrap)), True)
                    self.assertIs(is_expression(nested(13, leaf, wrap)), False)
                    self.assertIs(is_expression(nested(40, leaf, wrap)), False)

    def test_signs_and_calls_are_counted_together(self):
        inner = nested(6, ONE, EXPRESSION_WRAPS[2])
        self.assertIs(is_expression(nested(6, inner, EXPRESSION_WRAPS[1])), True)
        self.assertIs(is_expression(nested(7, inner, EXPRESSION_WRAPS[1])), False)

    def test_what_lies_beside_is_not_counted(self):
        deep = nested(11, ONE, EXPRESSION_WRAPS[0])
        self.assertIs(is_expression(("*", deep, deep)), True)
        self.assertIs(is_expression(("call", "f", (deep, deep, deep, deep))), True)


class Blocks(unittest.TestCase):
    def test_each_form(self):
        for statement, text in STATEMENTS:
            with self.subTest(text=text):
                self.assertIs(is_block((statement,)), True)

    def test_blocks_of_none_and_of_many(self):
        self.assertIs(is_block(()), True)
        self.assertIs(is_block(tuple([statement for statement, text in STATEMENTS])), True)
        self.assertIs(is_block((("get", "x"),) * 500), True)

    def test_each_expression_stands_in_a_statement(self):
        for expression, text in EXPRESSIONS:
            for hold in HOLDERS:
                with self.subTest(statement=hold(expression)):
                    self.assertIs(is_block((hold(expression),)), True)

    def test_a_part_too_few_or_too_many(self):
        for statement, text in STATEMENTS:
            with self.subTest(text=text):
                self.assertIs(is_block((statement[:-1],)), False)
                self.assertIs(is_block((statement[1:],)), False)
                self.assertIs(is_block((statement[:1] + statement[2:],)), False)
                for more in ["x", ONE, (), None]:
                    self.assertIs(is_block((statement + (more,),)), False)

    def test_a_part_of_another_kind(self):
        for statement, text in STATEMENTS:
            for place in range(1, len(statement)):
                for part in [None, True, 0, "", "do", "X", ["x"], ("x",), [], ("number", True), ("get", "x")]:
                    with self.subTest(text=text, place=place, part=part):
                        self.assertIs(is_block((replaced(statement, (place,), part),)), False)

    def test_names_expressions_and_blocks_in_the_place_of_one_another(self):
        things = [
            ("let", ("name", "x"), ONE), ("let", "x", "y"), ("let", "x", ()), ("if", "x", (), ()), ("if", (), (), ()),
            ("if", ONE, ONE, ()), ("if", ONE, (), ONE), ("if", ONE, ("get", "x"), ()), ("while", ONE, ("get", "x")),
            ("while", ONE, ONE), ("while", (), ()), ("do", "f", ONE), ("do", "f", (ONE, "x")), ("do", "f", "x"),
            ("do", ("name", "f"), ()), ("do", "f", (("get", "x"),)), ("give", "x"), ("give", ()), ("tell", "x"),
            ("tell", (ONE,)), ("get", ("name", "x")), ("get", ONE), ("new", "p", ("name", "f")), ("new", "p", ONE),
            ("new", ("name", "p"), "f"), ("new", "p", ()), ("hand", "p", "q"), ("hand", ("name", "p"), ONE),
            ("await", "p", ("name", "q")), ("await", ("name", "p"), "q"), ("await", "p", ONE),
        ]
        for thing in things:
            with self.subTest(thing=thing):
                self.assertIs(is_block((thing,)), False)

    def test_a_do_has_up_to_four_parts(self):
        self.assertIs(is_block((("do", "f", (ONE,) * 4),)), True)
        self.assertIs(is_block((("do", "f", (ONE,) * 5),)), False)

    def test_other_things(self):
        things = ["", "get", None, True, 0, [], ["x"], ("get", "x"), ("x",), (1,), (None,), ((),), ([],), (ONE,),
                  (("name", "x"),), (("call", "f", ()),), (("+", ONE, ONE),), (("", "x"),), (("set", "x"),),
                  ((["get"], "x"),), ((("get",), "x"),), ((None, "x"),), (("get", "x"), None),
                  (("get", "x"), ("get",)), ((("get", "x"),),)]
        for thing in things:
            with self.subTest(thing=thing):
                self.assertIs(is_block(thing), False)

    def test_odd_things(self):
        for place, thing in enumerate(ODD):
            with self.subTest(place=place):
                self.assertIs(is_block(thing), False)
                self.assertIs(is_block((thing,)), False)

    def test_a_list_in_the_place_of_any_tuple(self):
        for statement, text in STATEMENTS:
            block = (statement,)
            for path, part in places(block):
                if isinstance(part, tuple):
                    with self.subTest(text=text, path=path):
                        self.assertIs(is_block(replaced(block, path, list(part))), False)

    def test_how_deep_a_statement_lies(self):
        for wrap in STATEMENT_WRAPS:
            for bare in BARE:
                with self.subTest(shown=wrap(bare)):
                    self.assertIs(is_block((nested(12, bare, wrap),)), True)
                    self.assertIs(is_block((nested(13, bare, wrap),)), False)
                    self.assertIs(is_block((nested(40, bare, wrap),)), False)

    def test_a_statement_holding_an_expression_lies_in_one_less(self):
        for wrap in STATEMENT_WRAPS:
            for hold in HOLDERS:
                with self.subTest(shown=wrap(hold(ONE))):
                    self.assertIs(is_block((nested(11, hold(ONE), wrap),)), True)
                    self.assertIs(is_block((nested(12, hold(ONE), wrap),)), False)

    def test_how_deep_an_expression_lies_in_both(self):
        for statements in range(12):
            for hold in HOLDERS:
                for wrap in EXPRESSION_WRAPS:
                    just = hold(nested(11 - statements, ONE, wrap))
                    beyond = hold(nested(12 - statements, ONE, wrap))
                    with self.subTest(statements=statements, shown=hold(wrap(ONE))):
                        self.assertIs(is_block((nested(statements, just, STATEMENT_WRAPS[0]),)), True)
                        self.assertIs(is_block((nested(statements, beyond, STATEMENT_WRAPS[0]),)), False)

    def test_expressions_beside_a_statement_are_not_counted_for_it(self):
        deep = nested(11, ONE, EXPRESSION_WRAPS[0])
        statement = nested(11, ("get", "x"), STATEMENT_WRAPS[0])
        self.assertIs(is_block((("while", deep, (statement,)),)), True)
        self.assertIs(is_block((("if", deep, (statement,), (statement,)),)), True)
