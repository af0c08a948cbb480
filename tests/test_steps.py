"""Where a step is counted, and what is done behind it already."""

from tests.running import MORE_THAN_ALL, Running, joined, unit_of

DONE = ("done",)
DEEDS = ("word x word y"
         " deed nought with own do end"
         " deed one with own do give 1 end"
         " deed same with n own do give n end"
         " deed sum with m n own do let m be + m n give m end")


class Counts(Running):
    def count(self, block, steps, numbers=(), head=DEEDS):
        self.ask(unit_of(head, block), MORE_THAN_ALL, numbers, steps=steps, ended=DONE)

    def test_plain_statements(self):
        for block in ["let x be 1", "let x be + 1 * 2 - 3 x", "tell 1", "get x", "give 1", "new x deed one",
                      "if 1 then end else end", "if 0 then end else end", "while 0 do end", "hand x to 1"]:
            with self.subTest(block=block):
                self.count(block, 1)

    def test_statements_one_by_one(self):
        self.count("let x be 1 tell x get y", 3)

    def test_await(self):
        self.count("let x be 1 await y and x", 2)

    def test_ifs(self):
        self.count("if 1 then tell 1 tell 2 end else tell 3 end", 3)
        self.count("if 0 then tell 1 tell 2 end else tell 3 end", 2)
        self.count("if 1 then if 0 then end else tell 1 if 1 then end else end end end else end", 4)

    def test_whiles(self):
        self.count("while 0 do tell 1 end tell 2", 2)
        # Begun, two rounds of one statement, asked again behind each.
        self.count("while < x 2 do let x be + x 1 end", 1 + 2 * 2)
        self.count("while < x 3 do let x be + x 1 tell x end tell 9", 1 + 3 * 3 + 1)

    def test_whiles_in_whiles(self):
        block = "while < x 2 do let x be + x 1 let y be 0 while < y 3 do let y be + y 1 end end"
        inner = 1 + 3 * 2
        self.count(block, 1 + 2 * (1 + 1 + inner + 1))

    def test_a_while_without_statements_counts_each_asking(self):
        for n in [1, 2, 3, 50]:
            self.ask(unit_of("", "while 1 do end"), n, steps=n, ended=None)

    def test_do_counts_no_call(self):
        self.count("do nought 0", 1)
        self.count("do one 0", 1 + 1)
        self.count("do sum 2 1 2", 1 + 2)

    def test_calls_in_expressions(self):
        self.count("tell call nought 0", 1 + 1)
        self.count("tell call one 0", 1 + 1 + 1)
        self.count("tell call sum 2 1 2", 1 + 1 + 2)
        self.count("tell + call one 0 call one 0", 1 + 2 * 2)
        self.count("tell call same 1 call same 1 call one 0", 1 + 3 * 2)
        self.count("if call one 0 then end else end", 1 + 2)
        self.count("give call one 0", 1 + 2)
        self.count("hand x to call one 0", 1 + 2)

    def test_calls_in_the_parts_of_a_do(self):
        self.count("do sum 2 call one 0 call same 1 4", 1 + 2 + 2 + 2)

    def test_calls_in_a_while(self):
        # Asked three times, each time with a call of one statement.
        self.count("while < call same 1 x 2 do let x be + x 1 end", 3 * (1 + 2) + 2)


class WhatIsDoneBehindAStep(Running):
    def each(self, block, field, expected, numbers=(), head=DEEDS):
        self.ask_each(unit_of(head, block), field, expected, numbers)

    def words(self, block, expected, numbers=(), head=DEEDS):
        self.each(block, "words", [(pair,) for pair in expected], numbers, head)

    def test_let_and_get_without_calls(self):
        self.words("let x be 5 get y let x be + x y", [(0, 0), (5, 0), (5, 4), (9, 4)], [4])

    def test_let_with_a_call(self):
        # The let, the call, the give.
        self.words("let x be call one 0 let y be 2", [(0, 0), (0, 0), (0, 0), (1, 0), (1, 2)])

    def test_let_with_a_call_of_nothing(self):
        self.words("let x be 3 let x be call nought 0", [(0, 0), (3, 0), (3, 0), (0, 0)])

    def test_parts_are_worked_ahead_of_the_call_s_step(self):
        # The tell begins; in its part same is called, and gives; only then the outer one.
        head = "deed same with n own do tell n give n end deed out with n own do tell * n 10 give 0 end"
        self.each("tell call out 1 call same 1 7", "told",
                  [(), (), (), (7,), (7,), (7,), (7, 70), (7, 70, 0)], head=head)

    def test_tell_with_a_call(self):
        self.each("tell call one 0 tell 2", "told", [(), (), (), (1,), (1, 2)])

    def test_do_begins_its_deed_at_once(self):
        head = "word x deed f with n own do let x be n let x be + x 1 end"
        self.each("do f 1 4 let x be 9", "words", [((0,),), ((0,),), ((4,),), ((5,),), ((9,),)], head=head)

    def test_the_end_is_behind_the_last_statement_s_step(self):
        self.each("tell 1 tell 2", "ended", [None, None, DONE, DONE])
        self.each("if 1 then tell 1 end else end", "ended", [None, None, DONE])
        self.each("while < x 1 do let x be 1 end", "ended", [None, None, None, DONE])
        self.each("do one 0", "ended", [None, None, DONE])
        self.each("give call one 0 tell 4", "ended", [None, None, None, DONE])

    def test_the_value_of_a_call_is_there_behind_its_last_step(self):
        head = "word x deed f with own do if 1 then while 0 do end end else end end"
        # The let, the call, the if, the while, which leads to the end of all of them.
        self.each("let x be 6 let x be call f 0", "words",
                  [((0,),), ((6,),), ((6,),), ((6,),), ((6,),), ((0,),)], head=head)

    def test_asking_again_is_a_step_of_its_own(self):
        head = "word x deed f with own do tell 5 give < x 1 end"
        self.each("while call f 0 do let x be 1 end", "told",
                  [(), (), (), (5,), (5,), (5,), (5,), (5,), (5, 5), (5, 5)], head=head)


class Doings(Running):
    def told(self, block, told, numbers=(), head=DEEDS):
        self.ask(unit_of(head, block), MORE_THAN_ALL, numbers, told=told, ended=DONE)

    def test_let(self):
        self.told("let x be 3 tell x let x be * x x tell x let y be x let x be 0 tell y tell x", (3, 9, 9, 0))

    def test_if(self):
        for value, told in [("1", 1), ("0", 2), ("-1", 1), ("999999", 1), ("- 4 4", 2), ("call nought 0", 2)]:
            with self.subTest(value=value):
                self.told("if " + value + " then tell 1 end else tell 2 end tell 3", (told, 3))

    def test_while(self):
        self.told("let x be -2 while x do tell x let x be + x 1 end tell 7", (-2, -1, 7))
        self.told("while x do tell 1 end", ())

    def test_get(self):
        self.told("get x tell x get x tell x get x tell x", (4, -5, 0), [4, -5])
        self.told("let x be 9 get x tell x", (0,))
        self.told("get x", (), [1, 2, 3])

    def test_taken(self):
        self.ask_each(unit_of("word x", "get x get x get x get x"), "taken", [0, 1, 2, 2, 2], [0, 6])

    def test_tell(self):
        self.told("tell 0 tell -999999 tell 999999 tell 0", (0, -999999, 999999, 0))

    def test_signs(self):
        for left, right in [(5, 3), (3, 5), (-4, -4), (0, -1), (999, 1000), (7, 0)]:
            for sign, value in [("+", left + right), ("-", left - right), ("*", left * right),
                                ("<", 1 if left < right else 0), ("=", 1 if left == right else 0)]:
                with self.subTest(sign=sign, left=left, right=right):
                    self.told(f"tell {sign} {left} {right}", (value,))
                    self.told(f"get x get y tell {sign} x y", (value,), [left, right])

    def test_nested_signs(self):
        self.told("tell - - 10 3 2 tell - 10 - 3 2 tell * + 1 2 - 7 3 tell < = 1 2 = 3 3", (5, 9, 12, 1))

    def test_left_ahead_of_right(self):
        head = "word x deed say with n own do tell n give n end deed set with n own do let x be n give n end"
        for sign in ["+", "-", "*", "<", "="]:
            self.told("let x be " + sign + " call say 1 1 call say 1 2", (1, 2), head=head)
        # What was worked on the left stays as it was when the right one changes the word.
        self.told("let x be 5 tell + x call set 1 100 tell + call set 1 1 x", (105, 2), head=head)

    def test_parts_from_the_left(self):
        head = "word x deed say with n own do tell n give n end deed four with a b c d own do tell - - - a b c d end"
        parts = " 4 call say 1 90 call say 1 30 call say 1 20 call say 1 1"
        self.told("do four" + parts, (90, 30, 20, 1, 39), head=head)
        self.told("let x be call four" + parts + " tell x", (90, 30, 20, 1, 39, 0), head=head)

    def test_do_drops_the_value(self):
        self.told("do one 0 tell + 5 call one 0 do one 0 tell call sum 2 call one 0 3", (6, 4))

    def test_a_do_within_a_call_s_part(self):
        head = "word x deed f with n own do do g 0 give + n 1 end deed g with own do let x be + x 1 give 50 end"
        self.told("tell + * 100 call f 1 call f 1 2 x", (402,), head=head)

    def test_owns_are_nought_at_each_call(self):
        head = "deed f with n own a b do tell a tell b let a be n let b be + n 1 tell a tell b end"
        self.told("do f 1 5 do f 1 7", (0, 0, 5, 6, 0, 0, 7, 8), head=head)

    def test_as_many_owns_and_params_as_there_may_be(self):
        head = "deed f with i j k l own a b c d e g do let g be + l g tell - - - i j k + + + + + a b c d e g end"
        self.told("do f 4 100 20 3 1 do f 4 1 2 3 4", (76, -8), head=head)
        self.told("tell call f 0", (1,), head="deed f with own a b c d e g do give = g + a + b + c + d e end")

    def test_params_and_owns_of_calls_that_are_open(self):
        head = ("deed fact with n own m do let m be n if < n 2 then give 1 end else end"
                " let n be call fact 1 - n 1 give * m n end")
        self.told("tell call fact 1 6", (720,), head=head)
        head = "deed fib with n own do if < n 2 then give n end else end give + call fib 1 - n 1 call fib 1 - n 2 end"
        self.told("tell call fib 1 9", (34,), head=head)

    def test_params_are_values(self):
        head = "word x deed f with n own do let n be + n 1 tell x give n end"
        self.told("let x be 3 tell call f 1 x tell x", (3, 4, 3), head=head)

    def test_params_and_owns_hide_words(self):
        head = ("word x word y deed f with x own y do let x be + x 1 let y be 7 get y tell x tell y do g 0 end"
                " deed g with own do tell x tell y end")
        self.told("let x be 1 let y be 2 do f 1 40 tell x tell y", (41, 8, 1, 2, 1, 2), [8], head)

    def test_params_and_owns_hide_deeds(self):
        head = ("word x deed f with g own f do let f be + g 1 tell f tell g give f end"
                " deed g with own do give 9 end")
        self.told("tell call f 1 2 tell call g 0", (3, 2, 3, 9), head=head)

    def test_owns_hide_what_is_taken(self):
        things = joined("face a word x deed h 0 done", "unit a deed h with own do give 3 end do let x be 4 end done",
                        "unit b take x from a take h from a deed f with h own x do let x be + x h tell x end"
                        " do do f 1 6 tell x tell call h 0 end done")
        self.ask_end(things, DONE, told=(6, 4, 3), words=((4,), ()))

    def test_deeds_may_stand_behind_their_use(self):
        self.told("tell call f 0", (5,), head="deed f with own do give call g 0 end deed g with own do give 5 end")


class Gives(Running):
    def told(self, head, block, told):
        self.ask_end(unit_of(head, block), DONE, told=told)

    def test_in_a_deed(self):
        self.told("deed f with own do give 4 tell 1 end", "tell call f 0 tell 2", (4, 2))

    def test_the_end_gives_nought(self):
        self.told("deed f with own a do let a be 8 end", "tell + 5 call f 0", (5,))

    def test_within_ifs_and_whiles_of_a_deed(self):
        head = ("deed f with n own do while 1 do if < n 3 then let n be + n 1 end else"
                " while 1 do give * n 10 tell 1 end tell 2 end end tell 3 end")
        self.told(head, "tell call f 1 1 tell call f 1 5", (30, 50))

    def test_in_a_unit_s_block(self):
        self.told("", "tell 1 give 2 tell 3", (1,))

    def test_within_ifs_and_whiles_of_a_unit_s_block(self):
        self.told("word x", "while 1 do let x be + x 1 if = x 3 then while 1 do give 0 tell 8 end tell 9 end"
                            " else tell x end end tell 7", (1, 2))
        self.told("", "if 0 then tell 1 end else give 5 end tell 2", ())

    def test_the_other_blocks_go_on(self):
        things = joined("face a word x done", "unit a do tell 1 while 1 do give + 1 2 end tell 2 end done",
                        "unit b take x from a do tell 3 give 4 tell 5 end done")
        self.ask_end(things, DONE, told=(1, 3), steps=5)

    def test_a_give_of_an_inner_call_ends_that_alone(self):
        head = "deed f with own do do g 0 tell 1 give 2 end deed g with own do if 1 then give 9 end else end tell 8 end"
        self.told(head, "tell call f 0", (1, 2))

    def test_its_value_is_worked(self):
        self.told("deed f with own do tell 6 give 7 end", "give call f 0 tell 1", (6,))
        self.ask_end(unit_of("", "give + 999999 1"), ("trap", "great"))
