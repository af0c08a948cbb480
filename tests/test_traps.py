from tests.running import MORE_THAN_ALL, Running, joined, unit_of

DONE = ("done",)


class Traps(Running):
    # What is told is the whole state; more steps change nothing of it.
    def ask_trap(self, things, kind, state, numbers=(), clock=0):
        expected = state + (("trap", kind),)
        for run in self.runs(things, numbers, clock):
            run.run(state[0] - 1)
            self.assertEqual((run.state()[0], run.state()[-1]), (state[0] - 1, None), type(run).__name__)
            run.run(1)
            self.assertEqual(run.state(), expected, type(run).__name__)
            for n in [0, 1, 5, MORE_THAN_ALL]:
                run.run(n)
                self.assertEqual(run.state(), expected, type(run).__name__)
        for run in self.runs(things, numbers, clock):
            run.run(MORE_THAN_ALL)
            self.assertEqual(run.state(), expected, type(run).__name__)


class Great(Traps):
    BEYOND = [("+ 999999 1", "+ 999998 1", 999999), ("+ -999999 -1", "+ -999998 -1", -999999),
              ("- 999999 -1", "- 999999 0", 999999), ("- -999999 1", "- -999998 1", -999999),
              ("* 1000 1000", "* 999 1001", 999999), ("* -1000 1000", "* -999 1001", -999999),
              ("* 999999 999999", "* 999999 -1", -999999), ("+ 999999 999999", "- 999999 999999", 0),
              ("* -999999 -999999", "* 333333 3", 999999), ("+ 500000 500000", "+ 500000 499999", 999999)]

    def test_beyond_and_just_within(self):
        for beyond, within, value in self.BEYOND:
            with self.subTest(beyond=beyond):
                self.ask_trap(unit_of("word x", "let x be 7 let x be " + beyond + " tell 1"), "great",
                              (2, (), 0, ((7,),), 1, 0, 1))
                self.ask_end(unit_of("word x", "let x be 7 let x be " + within + " tell 1"), DONE, steps=3, told=(1,),
                             words=((value,),))

    def test_of_words(self):
        things = unit_of("word x word y", "get x get y let x be * x y")
        self.ask_trap(things, "great", (3, (), 2, ((100000, 10),), 1, 0, 1), [100000, 10])
        self.ask_trap(things, "great", (3, (), 2, ((-10, 100000),), 1, 0, 1), [-10, 100000])

    def test_a_part_of_an_expression(self):
        # The whole would be a number again.
        self.ask_trap(unit_of("word x", "let x be - + 999999 1 1"), "great", (1, (), 0, ((0,),), 1, 0, 1))
        self.ask_trap(unit_of("word x", "let x be * 0 * 9999 9999"), "great", (1, (), 0, ((0,),), 1, 0, 1))

    def test_in_each_statement(self):
        beyond = "+ 999999 1"
        for statement in ["tell " + beyond, "give " + beyond, "hand x to " + beyond, "do f 1 " + beyond,
                          "if " + beyond + " then tell 1 end else tell 2 end", "while " + beyond + " do tell 1 end"]:
            with self.subTest(statement=statement):
                things = unit_of("word x deed f with n own do tell n end", statement + " tell 3")
                self.ask_trap(things, "great", (1, (), 0, ((0,),), 1, 0, 1))

    def test_in_the_part_of_a_call(self):
        # The call's own step is not come to.
        things = unit_of("word x deed f with n own do tell n end", "let x be call f 1 + 999999 1")
        self.ask_trap(things, "great", (1, (), 0, ((0,),), 1, 0, 1))

    def test_left_ahead_of_right(self):
        head = "word x deed say with n own do tell n give n end"
        self.ask_trap(unit_of(head, "let x be + + 999999 1 call say 1 5"), "great", (1, (), 0, ((0,),), 1, 0, 1))
        self.ask_trap(unit_of(head, "let x be + call say 1 5 + 999999 1"), "great", (4, (5,), 0, ((0,),), 1, 0, 1))

    def test_as_a_while_asks_again(self):
        self.ask_trap(unit_of("word x", "let x be 999998 while + x 1 do let x be + x 1 end"), "great",
                      (4, (), 0, ((999999,),), 1, 0, 1))

    def test_in_another_process(self):
        head = "word p deed f with own a do tell 4 let a be 999999 let p be + a p end"
        self.ask_trap(unit_of(head, "new p deed f hand p to p"), "great", (5, (4,), 0, ((1,),), 2, 0, 2))

    def test_comparing_is_never_great(self):
        self.ask_end(unit_of("", "tell < -999999 999999 tell = 999999 -999999"), DONE, told=(1, 0))


class Deep(Traps):
    CALL = "word x deed f with n own do let x be n if < 1 n then do f 1 - n 1 end else end let x be + x 100 end"
    VALUE = "word x deed f with n own do let x be n if < 1 n then give + 1 call f 1 - n 1 end else end give 1 end"

    def test_twelve_dos(self):
        self.ask_end(unit_of(self.CALL, "do f 1 12"), DONE, words=((1201,),))

    def test_thirteen_dos(self):
        # The first do, and in each of twelve calls a let, an if and a do, the last of which is one too many.
        self.ask_trap(unit_of(self.CALL, "do f 1 13 tell 1"), "deep", (1 + 12 * 3, (), 0, ((2,),), 1, 0, 1))

    def test_twelve_calls(self):
        self.ask_end(unit_of(self.VALUE, "tell call f 1 12"), DONE, told=(12,), words=((1,),))

    def test_thirteen_calls(self):
        # The tell and its call, and in each of twelve calls a let, an if, a give and the call in it.
        self.ask_trap(unit_of(self.VALUE, "tell call f 1 13 tell 1"), "deep", (2 + 12 * 4, (), 0, ((2,),), 1, 0, 1))

    def test_calls_that_have_ended_do_not_count(self):
        head = "word x deed f with n own do give + n 1 end deed g with own do let x be call f 1 call f 1 x end"
        self.ask_end(unit_of(head, "while < x 40 do do g 0 end tell x"), DONE, told=(40,))
        parts = "call f 1 " * 11
        self.ask_end(unit_of(self.VALUE, "tell + 0 call f 1 11 tell call f 1 12 do f 1 12"), DONE, told=(11, 12))
        self.ask_end(unit_of("deed f with n own do give + n 1 end", "tell " + parts.strip() + " 0"), DONE, told=(11,))

    def test_parts_are_worked_ahead(self):
        # At the thirteenth call its part is worked, in which a call is one too many already, and told ahead of it.
        head = "word x deed f with n own do if < n 12 then do f 1 + n 1 end else do g 1 call h 0 end end"
        deeds = " deed g with n own do tell 2 end deed h with own do tell 3 end"
        self.ask_trap(unit_of(head + deeds, "do f 1 1"), "deep", (1 + 12 * 2 + 1, (), 0, ((0,),), 1, 0, 1))

    def test_parts_without_calls_are_worked_ahead(self):
        head = "word x deed f with n own do if < n 12 then do f 1 + n 1 end else do f 1 + 999999 n end end"
        self.ask_trap(unit_of(head, "do f 1 1"), "great", (1 + 12 * 2, (), 0, ((0,),), 1, 0, 1))

    def test_the_word_keeps_its_own(self):
        head = "word x deed f with n own do if < n 12 then do f 1 + n 1 end else let x be 5 let x be call f 1 n end end"
        self.ask_trap(unit_of(head, "do f 1 1"), "deep", (1 + 12 * 2 - 1 + 3, (), 0, ((5,),), 1, 0, 1))

    def test_a_new_process_has_its_first_deed_among_the_twelve(self):
        head = self.CALL.replace("word x", "word x word p") + " deed go with own do do f 1 11 tell 8 hand p to 1 end"
        self.ask_end(unit_of(head, "new p deed go hand p to p"), DONE, told=(8,), words=((1101, 2),))
        head = head.replace("do f 1 11", "do f 1 12")
        # The new, the hand, the do in go, and eleven calls of f.
        self.ask_trap(unit_of(head, "new p deed go hand p to p"), "deep", (3 + 11 * 3, (), 0, ((2, 1),), 2, 0, 2))

    def test_calls_of_other_processes_do_not_count(self):
        # Process 1 has twelve calls open where it hands on, and process 2 opens eleven more beside its first.
        head = ("word p word q word t deed f with n own do if < 1 n then do f 1 - n 1 end else hand q to t end end"
                " deed go with own do let t be 1 do f 1 11 tell 8 hand q to 1 end")
        things = unit_of(head, "new p deed go let t be 2 do f 1 12 tell 9 hand q to 2 tell 10")
        self.ask_end(things, DONE, told=(9, 8, 10), processes=2)

    def test_of_a_taken_deed(self):
        things = joined("face a word x deed f 1 done", "unit a " + self.CALL.replace("word x ", "") + " do end done",
                        "unit b take f from a do do f 1 12 tell 1 do f 1 13 end done")
        self.ask_trap(things, "deep", (1 + 11 * 4 + 3 + 1 + 1 + 12 * 3, (1,), 0, ((2,), ()), 1, 0, 1))


class Full(Traps):
    HEAD = "word x word y deed f with own do tell 1 end"

    def test_the_sixth_and_the_seventh(self):
        self.ask_end(unit_of(self.HEAD, "new x deed f " * 5 + "tell 2"), DONE, told=(2,), processes=6, words=((6, 0),))
        self.ask_trap(unit_of(self.HEAD, "new x deed f " * 5 + "let y be 3 new y deed f tell 2"), "full",
                      (7, (), 0, ((6, 3),), 1, 0, 6))

    def test_in_another_process(self):
        head = "word x word y deed f with own n do while 1 do tell x new x deed f end end"
        self.ask_trap(unit_of(head, "new x deed f hand y to x"), "full",
                      (3 + 3 * 4 + 2, (2, 3, 4, 5, 6), 0, ((6, 1),), 2, 0, 6))


class NoneTrap(Traps):
    def test_a_hand_to_no_process(self):
        for number in [0, -1, 3, 7, 999999, -999999]:
            with self.subTest(number=number):
                things = unit_of("word x deed f with own do tell 1 end",
                                 "new x deed f let x be 9 hand x to %d tell 2" % number)
                self.ask_trap(things, "none", (3, (), 0, ((9,),), 1, 0, 2))

    def test_an_await_to_no_process(self):
        for number in [0, -1, 3, 7, 999999, -999999]:
            with self.subTest(number=number):
                things = unit_of("word x word y deed f with own do tell 1 end",
                                 "new x deed f let x be 9 let y be %d await x and y tell 2" % number)
                self.ask_trap(things, "none", (4, (), 0, ((9, number),), 1, 0, 2))

    def test_an_await_with_one_word(self):
        self.ask_trap(unit_of("word x", "let x be 2 await x and x"), "none", (2, (), 0, ((2,),), 1, 0, 1))

    def test_with_every_number_of_processes(self):
        for made in range(6):
            block = "new x deed f " * made
            head = "word x word y deed f with own do hand y to 1 tell 1 end"
            self.ask_end(unit_of(head, block + "hand y to %d" % (made + 1)), DONE, processes=made + 1)
            things = unit_of(head, block + "hand y to %d" % (made + 2))
            self.ask_trap(things, "none", (made + 1, (), 0, ((made + 1 if made else 0, 0),), 1, 0, made + 1))

    def test_the_end_of_a_process_s_deed(self):
        for block, steps, told in [("", 2, ()), ("tell 4", 3, (4,)), ("tell 4 give 5 tell 6", 4, (4,)),
                                   ("give 5", 3, ()), ("while 0 do end", 3, ()),
                                   ("if 1 then give 5 end else end tell 6", 4, ()),
                                   ("while 1 do give 0 end", 4, ()), ("do g 0", 4, ()), ("give call g 0", 5, ())]:
            with self.subTest(block=block):
                head = "word x word y deed f with own do " + block + (" end" if block else "end")
                things = unit_of(head + " deed g with own do give 3 end", "new x deed f hand y to x tell 1")
                self.ask_trap(things, "none", (steps, told, 0, ((2, 1),), 2, 0, 2))

    def test_the_end_behind_a_hand(self):
        head = "word x word y deed f with own do hand y to 1 end"
        self.ask_trap(unit_of(head, "new x deed f hand x to x tell 1 hand x to 2 tell 3"), "none",
                      (5, (1,), 0, ((1, 2),), 2, 0, 2))

    def test_the_end_of_one_that_waits(self):
        head = "word x word y deed f with own do await y and x end"
        self.ask_trap(unit_of(head, "new x deed f hand x to x tell 1 hand x to 2 tell 3"), "none",
                      (5, (1,), 0, ((1, 2),), 2, 2, 2))

    def test_a_give_in_a_call_of_a_process_is_no_end(self):
        head = "word x word y deed f with own do tell call g 0 hand y to 1 end deed g with own do give 3 end"
        self.ask_end(unit_of(head, "new x deed f hand y to x"), DONE, told=(3,))

    def test_the_value_of_a_give_is_worked_ahead(self):
        head = "word x word y deed f with own do give call g 0 end deed g with own do tell 9 hand y to 1 give 5 end"
        self.ask_trap(unit_of(head, "new x deed f hand y to x tell 1 hand y to 2"), "none",
                      (9, (9, 1), 0, ((2, 1),), 2, 0, 2))
        head = "word x word y deed f with own do give + 999999 1 end"
        self.ask_trap(unit_of(head, "new x deed f hand y to x"), "great", (3, (), 0, ((2, 1),), 2, 0, 2))


class Waits(Traps):
    HEAD = "word x word y word z deed f with own do await x and y tell 1 hand x to 1 end"

    def test_one_waits_already(self):
        things = unit_of(self.HEAD, "new z deed f hand y to z let x be 8 await x and y tell 2")
        self.ask_trap(things, "waits", (5, (), 0, ((8, 1, 2),), 1, 2, 2))

    def test_it_is_the_one_that_awaits(self):
        self.ask_trap(unit_of("word x word y", "let y be 1 await x and y let x be 4 await x and y"), "waits",
                      (4, (), 0, ((4, 1),), 1, 1, 1))

    def test_asked_ahead_of_all_else(self):
        for number in [0, -1, 3, 999999]:
            things = unit_of(self.HEAD, "new z deed f hand y to z let x be %d await z and x tell 2" % number)
            self.ask_trap(things, "waits", (5, (), 0, ((number, 1, 2),), 1, 2, 2))

    def test_when_it_was_handed_to(self):
        # It goes on waiting still, and another that it hands to can't await.
        things = unit_of(self.HEAD, "new z deed f hand y to z hand z to 2 let y be 2 await x and y")
        self.ask_trap(things, "waits", (8, (1,), 0, ((2, 2, 1),), 1, 2, 2))

    def test_none_waits_behind_the_clock(self):
        things = unit_of(self.HEAD, "new z deed f hand y to z tell 4 let y be 1 await x and y tell 5")
        self.ask_trap(things, "waits", (6, (4,), 0, ((2, 1, 2),), 1, 2, 2))
        # 4 is the tell that the clock takes; 5 and 6 are of process 2, the second of which leads back to that tell.
        self.ask(things, 6, clock=4, told=(1, 4), running=1, waiting=0, ended=None)
        self.ask(things, MORE_THAN_ALL, clock=20, ended=("trap", "waits"))
        self.ask(things, MORE_THAN_ALL, clock=4, told=(1, 4, 5), ended=DONE, steps=9)


class TheStepIsCounted(Traps):
    """The clock comes at the step of a trap as at any other, ahead of it."""

    def test_the_clock_ahead_of_a_trap(self):
        head = "word x word y word n deed f with own do while 1 do await x and y let n be + n 1 end end"
        for statement, kind in [("tell * 1000 1000", "great"), ("hand n to 0", "none"), ("await n and y", "waits")]:
            things = unit_of(head, "new x deed f hand y to x " + statement)
            self.ask_trap(things, kind, (5, (), 0, ((2, 1, 0),), 1, 2, 2))
            self.ask_trap(things, kind, (8, (), 0, ((2, 1, 1),), 1, 2, 2), clock=5)
