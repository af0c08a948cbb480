from tests.running import MORE_THAN_ALL, Running, joined, unit_of

DONE = ("done",)


class News(Running):
    HEAD = "word a word b word c deed f with own n do let n be + n 1 let b be n hand c to 1 tell 7 end"

    def test_a_new_process_does_nothing_yet(self):
        self.ask_each(unit_of(self.HEAD, "new a deed f tell 1"), "processes words running told",
                      [(1, ((0, 0, 0),), 1, ()), (2, ((2, 0, 0),), 1, ()), (2, ((2, 0, 0),), 1, (1,))])

    def test_numbers_up_to_six(self):
        things = unit_of(self.HEAD, "new a deed f " * 4 + "new b deed f")
        self.ask_each(things, "processes words", [(1, ((0, 0, 0),),), (2, ((2, 0, 0),)), (3, ((3, 0, 0),)),
                                                  (4, ((4, 0, 0),)), (5, ((5, 0, 0),)), (6, ((5, 6, 0),))])
        self.ask_end(things, DONE, processes=6)

    def test_it_begins_when_it_is_first_handed_to(self):
        # The new, the hand, then the deed's statements, the last of which hands back.
        self.ask_each(unit_of(self.HEAD, "new a deed f hand b to a tell b tell c"), "running words told",
                      [(1, ((0, 0, 0),), ()), (1, ((2, 0, 0),), ()), (2, ((2, 1, 0),), ()), (2, ((2, 1, 0),), ()),
                       (2, ((2, 1, 0),), ()), (1, ((2, 1, 2),), ()), (1, ((2, 1, 2),), (1,)),
                       (1, ((2, 1, 2),), (1, 2))])

    def test_the_deed_s_own_are_nought_for_each(self):
        self.ask_end(unit_of(self.HEAD, "new a deed f hand a to a tell b new a deed f hand a to a tell b"),
                     DONE, told=(1, 1))

    def test_the_word_of_a_new_may_be_of_a_deed(self):
        head = "deed f with own c do hand c to 1 end deed g with p own q do new p deed f new q deed f tell p tell q end"
        self.ask_end(unit_of(head, "do g 1 9"), DONE, told=(2, 3), processes=3)

    def test_a_new_in_a_new_one(self):
        head = ("word a word b deed f with own do new b deed g hand a to b tell 99 end"
                " deed g with own do hand b to 1 tell 98 end")
        self.ask_end(unit_of(head, "new a deed f hand a to a tell a tell b"), DONE, told=(2, 3), processes=3)


class Hands(Running):
    def test_its_word_has_the_number_of_the_one_that_runs(self):
        head = "word a word b word back deed f with own do while 1 do hand a to back end end"
        things = unit_of(head, "new b deed f hand back to b tell a tell back")
        self.ask_end(things, DONE, told=(2, 1))

    def test_the_expression_is_worked_ahead_of_the_word(self):
        head = "word p deed f with own do tell p hand p to p tell p hand p to p end"
        # Each time p tells who handed on, and is who is handed to.
        self.ask_end(unit_of(head, "new p deed f hand p to p tell p hand p to p tell p"), DONE, told=(1, 2, 1, 2))

    def test_to_itself(self):
        self.ask_each(unit_of("word a", "let a be 5 hand a to 1 tell a"), "running words told ended",
                      [(1, ((0,),), (), None), (1, ((5,),), (), None), (1, ((1,),), (), None),
                       (1, ((1,),), (1,), DONE)])

    def test_a_new_one_to_itself(self):
        head = "word a word b deed f with own do hand b to 2 tell b hand b to 1 end"
        self.ask_end(unit_of(head, "new a deed f hand b to a tell b"), DONE, told=(2, 2))

    def test_with_a_call_in_its_expression(self):
        head = ("word a word b deed f with own do tell 4 hand b to 1 end"
                " deed g with own do tell b let b be 6 give a end")
        self.ask_end(unit_of(head, "new a deed f hand b to call g 0 tell b"), DONE, told=(0, 4, 2))

    def test_handing_on_within_the_expression_of_a_hand(self):
        # In the expression process 1 hands to 2, and later is handed back to; then it hands to 3.
        head = ("word a word b word c deed two with own do tell 20 hand c to 1 tell 21 end"
                " deed three with own do tell 30 hand c to 1 end deed pick with own do hand c to a tell 10 give b end")
        self.ask_end(unit_of(head, "new a deed two new b deed three hand c to call pick 0 tell c"),
                     DONE, told=(20, 10, 30, 3))


class GoingOn(Running):
    """A process that is handed to again goes on just behind where it handed on, with all that it had."""

    def test_from_within_blocks(self):
        head = ("word p word q deed f with own n do tell 1 if 1 then tell 2 hand q to 1 tell 3 end else end"
                " while < n 2 do let n be + n 1 hand q to 1 tell + 10 n end tell 4 hand q to 1 end")
        block = "new p deed f tell 100 " + "hand q to p tell + 100 q " * 4
        self.ask_end(unit_of(head, block), DONE, told=(100, 1, 2, 102, 3, 102, 11, 102, 12, 4, 102))

    def test_from_within_calls(self):
        head = ("word p word q deed f with own a do let a be 5 tell + a call g 1 a tell a hand q to 1 end"
                " deed g with n own a do let a be + n 1 hand q to 1 tell n tell a give call h 2 n a end"
                " deed h with m n own do hand q to 1 tell m tell n give + m n end")
        block = "new p deed f tell 100 hand p to 2 tell 101 hand p to 2 tell 102 hand p to 2 tell 103"
        self.ask_end(unit_of(head, block), DONE, told=(100, 101, 5, 6, 102, 5, 6, 16, 5, 103))

    def test_from_between_the_parts_of_a_call(self):
        head = ("word p word q word x deed f with own do tell call three 3 7 call off 0 x hand q to 1 end"
                " deed off with own do hand q to 1 give 8 end"
                " deed three with a b c own do give + * 100 a + * 10 b c end")
        self.ask_end(unit_of(head, "new p deed f let x be 1 hand p to 2 let x be 2 hand p to 2 tell 0"),
                     DONE, told=(782, 0))

    def test_from_between_the_sides_of_a_sign(self):
        head = ("word p word q word x deed f with own do tell - x call off 0 tell - call off 0 x hand q to 1 end"
                " deed off with own do hand q to 1 give 8 end")
        block = "new p deed f let x be 30 hand p to 2 let x be 50 hand p to 2 let x be 70 hand p to 2"
        self.ask_end(unit_of(head, block), DONE, told=(22, -62))

    # Two processes of one deed, each with its own n, both in calls of the same deed.
    def test_two_of_one_deed(self):
        head = ("word p word q word r deed f with own n do get n while 1 do tell call g 1 n let n be + n 1 end end"
                " deed g with n own m do let m be * n 2 hand r to 1 give m end")
        block = "new p deed f new q deed f " + "hand r to 2 hand r to 3 " * 3 + "tell 0"
        self.ask(unit_of(head, block), MORE_THAN_ALL, [10, 50], told=(20, 100, 22, 102, 0), ended=DONE)

    def test_the_first_process_goes_on_in_its_unit_s_block(self):
        things = joined("face a word p word q deed f 0 done",
                        "unit a deed f with own do while 1 do tell 9 hand q to 1 end end"
                        " do new p deed f tell 1 hand q to p tell 2 end done",
                        "unit b take p from a take q from a do tell 3 while < q 3 do hand q to p let q be 3 end"
                        " hand q to p end done")
        self.ask_end(things, DONE, told=(1, 9, 2, 3, 9, 9))

    def test_six_in_a_ring(self):
        head = ("word r word n deed f with own i do while 1 do let i be + i 1 tell + * 100 n i do pass 0 end end"
                " deed pass with own do if = n 6 then let n be 1 hand r to 1 end"
                " else let n be + n 1 hand r to n end end")
        block = "new r deed f " * 5 + "let n be 1 do pass 0 tell 1 do pass 0 tell 2"
        told = (201, 301, 401, 501, 601, 1, 202, 302, 402, 502, 602, 2)
        self.ask_end(unit_of(head, block), DONE, told=told, processes=6)

    def test_twelve_calls_of_each(self):
        head = ("word p word q deed f with own do while 1 do do g 1 11 end end"
                " deed g with n own do if < 1 n then tell call g 1 - n 1 end else hand q to 1 end give n end")
        # One call of f and eleven of g are open in process 2 where it hands on.
        self.ask(unit_of(head, "new p deed f hand q to 2 tell 0 hand q to 2 tell 100"), MORE_THAN_ALL,
                 told=(0, 1, 2, 3, 4, 5, 6, 7, 8, 9, 10, 100), ended=DONE)


class Awaits(Running):
    HEAD = "word a word b word c deed f with own do tell b await a and b tell 50 hand c to 1 tell 51 hand c to 1 end"

    def test_it_hands_on_and_waits(self):
        # The new, the hand, then in process 2 the tell and the await.
        self.ask_each(unit_of(self.HEAD, "new c deed f hand b to c tell a tell b"),
                      "running waiting words told",
                      [(1, 0, ((0, 0, 0),), ()), (1, 0, ((0, 0, 2),), ()), (2, 0, ((0, 1, 2),), ()),
                       (2, 0, ((0, 1, 2),), (1,)), (1, 2, ((2, 1, 2),), (1,)), (1, 2, ((2, 1, 2),), (1, 2)),
                       (1, 2, ((2, 1, 2),), (1, 2, 1))])

    def test_one_that_waits_and_is_handed_to(self):
        things = unit_of(self.HEAD, "new c deed f hand b to c hand c to 2 tell 3 hand c to 2 tell 4")
        self.ask_end(things, DONE, told=(1, 50, 3, 51, 4), waiting=2)

    def test_to_itself(self):
        self.ask_each(unit_of("word a word b", "let b be 1 await a and b tell a"), "running waiting words told ended",
                      [(1, 0, ((0, 0),), (), None), (1, 0, ((0, 1),), (), None), (1, 1, ((1, 1),), (), None),
                       (1, 1, ((1, 1),), (1,), DONE)])

    def test_the_second_word_is_worked_first(self):
        head = "word a deed f with own do await a and a end"
        # Process 2 awaits with one word in both places: the first process goes on, then the word is 2.
        self.ask_end(unit_of(head, "new a deed f hand a to a tell a"), DONE, told=(2,), waiting=2)

    def test_to_a_third_one(self):
        head = ("word a word b word c deed f with own do let b be 3 await a and b end"
                " deed g with own do tell a tell b hand c to 1 end")
        self.ask_end(unit_of(head, "new c deed f new c deed g hand c to 2 tell c"), DONE, told=(2, 3, 3), waiting=2,
                     running=1)

    def test_to_one_that_has_not_begun(self):
        head = "word a word b deed f with own do tell 8 hand a to 1 end"
        self.ask_end(unit_of(head, "new b deed f await a and b tell 9"), DONE, told=(8, 9), waiting=1)
