from tests.running import MORE_THAN_ALL, Running, unit_of

DONE = ("done",)


# Process 2 counts in n how often the clock came to it; c is the one that it took the turn from. Its await is the fourth
# step, behind the new, the hand and the beginning of the while; the block's first statement is the fifth. Each coming
# of the clock leads to three steps of process 2: the let, asking again, and the await.
def driven(block, words="", deeds=""):
    head = "word d word c word n " + words + " deed drive with own do while 1 do await d and c let n be + n 1 end end "
    return unit_of((head + deeds).replace("  ", " "), "new d deed drive hand c to d " + block)


class WhenItComes(Running):
    def test_never_with_nought(self):
        things = driven("while 1 do end")
        self.ask(things, 1000, clock=0, steps=1000, running=1, waiting=2, words=((2, 1, 0),))

    def test_none_waits(self):
        for clock in [1, 2, 3]:
            things = unit_of("word x", "let x be 1 tell x while < x 3 do let x be + x 1 end")
            self.ask(things, MORE_THAN_ALL, clock=clock, steps=7, told=(1,), words=((3,),), running=1, waiting=0,
                     processes=1, ended=DONE)

    # The step's own doing is left to process 1 for when it is handed to again.
    def test_ahead_of_what_the_step_does(self):
        self.ask_each(driven("tell 1 tell 2"), "told running waiting words", [
            ((), 1, 0, ((0, 0, 0),)),
            ((), 1, 0, ((2, 0, 0),)),
            ((), 2, 0, ((2, 1, 0),)),
            ((), 2, 0, ((2, 1, 0),)),
            ((), 1, 2, ((2, 1, 0),)),
            ((), 2, 0, ((2, 1, 0),)),
            ((), 2, 0, ((2, 1, 1),)),
            ((), 2, 0, ((2, 1, 1),)),
            ((1,), 1, 2, ((2, 1, 1),)),
            ((1, 2), 1, 2, ((2, 1, 1),)),
        ], clock=5)

    def test_with_every_step(self):
        # Each step of process 1 is taken by the clock, and done behind the next await.
        self.ask_each(driven("tell 1 tell 2"), "told running waiting", [
            ((), 1, 0), ((), 1, 0), ((), 2, 0), ((), 2, 0), ((), 1, 2),
            ((), 2, 0), ((), 2, 0), ((), 2, 0), ((1,), 1, 2),
            ((1,), 2, 0), ((1,), 2, 0), ((1,), 2, 0), ((1, 2), 1, 2), ((1, 2), 1, 2),
        ], clock=1)
        self.ask(driven("tell 1 tell 2"), MORE_THAN_ALL, clock=1, steps=12, ended=DONE,
                 words=((2, 1, 2),))

    def test_an_await_does_not_wait_for_the_clock_of_its_own_step(self):
        things = driven("tell 1 tell 2 tell 3 tell 4 tell 5")
        self.ask(things, 4, clock=4, running=1, waiting=2, words=((2, 1, 0),))
        self.ask(things, 7, clock=4, told=(1, 2, 3), running=1, waiting=2)
        self.ask(things, 8, clock=4, told=(1, 2, 3), running=2, waiting=0)

    def test_multiples_alone(self):
        things = driven("while 1 do end")
        for clock in [2, 3, 5, 7, 30]:
            for run in self.runs(things, (), clock):
                for step in range(1, 100):
                    waited, was_running = run.state()[5], run.state()[4]
                    run.run(1)
                    if waited == 2 and step % clock == 0:
                        self.assertEqual(run.state()[4:6], (2, 0))
                    elif waited == 2:
                        self.assertEqual(run.state()[4:6], (was_running, 2))

    def test_greater_than_all_steps(self):
        self.ask(driven("tell 1"), MORE_THAN_ALL, clock=999999, told=(1,), waiting=2, ended=DONE)

    def test_at_the_last_step(self):
        # The step is counted and the end is not come to: process 2 goes on.
        things = driven("tell 1")
        self.ask(things, 5, clock=5, told=(), running=2, ended=None)
        self.ask(things, 8, clock=5, told=(1,), steps=8, running=1, waiting=2, ended=DONE)


class WhereItComes(Running):
    """Whatever a process is about to do, it does when it is handed to again, and the step is counted once."""

    def turn(self, things, clock, told, steps):
        self.ask(things, MORE_THAN_ALL, clock=clock, told=told, steps=steps, ended=DONE)

    def test_at_every_step(self):
        deeds = "deed f with a own b do let b be + a 1 give * b call g 0 end deed g with own do give 2 end"
        block = ("let x be call f 1 call f 1 3 tell x do f 1 call g 0 while < x 22 do let x be + x 1 tell x end"
                 " if call g 0 then tell 7 end else end give 4 tell 5")
        told = (18, 19, 20, 21, 22, 7)
        things = driven(block, "word x", deeds)
        self.ask_end(things, DONE, told=told, steps=41)
        for clock in range(1, 42):
            for run in self.runs(things, (), clock):
                run.run(MORE_THAN_ALL)
                steps, seen, taken, words, running, waiting, processes, ended = run.state()
                came = words[0][2]
                self.assertEqual((seen, ended), (told, DONE), clock)
                self.assertEqual(steps, 41 + 3 * came, clock)
                self.assertGreater(came, 0)

    def test_at_a_call(self):
        # Step 5 is the tell, 6 the call behind its part.
        things = driven("tell call f 1 4", "", "deed f with a own do tell a give + a 1 end")
        self.ask_each(things, "told running waiting", [
            ((), 1, 0), ((), 1, 0), ((), 2, 0), ((), 2, 0), ((), 1, 2), ((), 1, 2),
            ((), 2, 0), ((), 2, 0), ((), 2, 0), ((), 1, 2), ((4,), 1, 2), ((4, 5), 1, 2),
        ], clock=6)

    def test_the_parts_of_a_call_are_worked_ahead_of_its_step(self):
        # At the call's step the clock comes, process 2 changes n, and the part keeps the value that it had.
        self.turn(driven("tell call f 1 n tell n", "", "deed f with a own do give a end"), 6, (0, 1), 11)

    def test_the_parts_of_a_do_are_worked_behind_its_step(self):
        self.turn(driven("do f 1 n", "", "deed f with a own do tell a end"), 5, (1,), 9)

    def test_as_a_while_asks_again(self):
        # Step 5 begins the while, 6 is its let, with 7 it asks again, which is worked behind the clock.
        self.turn(driven("while < x 1 do let x be + x 1 end tell x", "word x"), 7, (1,), 11)
        things = driven("while = n 0 do let x be + x 1 end tell x", "word x")
        self.turn(things, 7, (1,), 11)
        self.turn(things, 6, (1,), 11)
        self.turn(things, 5, (0,), 9)

    def test_at_a_hand(self):
        # Process 3 is the driver here. At step 6 the hand to 2 is begun; it is done behind the driver's await, the
        # ninth. At step 12 the clock takes the turn from process 2, as it is about to hand back.
        head = ("word d word c word n word p deed drive with own do while 1 do await d and c let n be + n 1 end end"
                " deed f with own do tell c tell p hand c to 1 end")
        things = unit_of(head, "new p deed f new d deed drive hand c to d hand p to 2 tell 9")
        self.ask(things, 8, clock=6, told=(), running=3, words=((3, 1, 1, 2),))
        self.ask(things, 9, clock=6, told=(), running=2, waiting=3, words=((3, 1, 1, 1),))
        self.ask(things, 12, clock=6, told=(1, 1), running=3, waiting=0, words=((3, 2, 1, 1),))
        self.ask(things, MORE_THAN_ALL, clock=6, told=(1, 1, 9), words=((3, 2, 2, 1),), steps=16, ended=DONE)

    def test_at_a_hand_to_none(self):
        self.ask(driven("hand n to 3 tell 1"), MORE_THAN_ALL, clock=5, ended=("trap", "none"), running=1, waiting=2,
                 steps=8, words=((2, 1, 1),), told=())

    def test_at_an_await(self):
        # Step 6 begins an await of process 1, which is done only when it is handed to again: then one waits already.
        things = driven("let y be 1 await x and y tell 1", "word x word y")
        self.ask(things, MORE_THAN_ALL, clock=6, ended=("trap", "waits"), waiting=2, running=1, steps=9)

    def test_at_a_get_and_a_new(self):
        deeds = "deed f with own do end"
        self.ask_each(driven("get x", "word x", deeds), "taken words", [
            (0, ((0, 0, 0, 0),)), (0, ((2, 0, 0, 0),)), (0, ((2, 1, 0, 0),)), (0, ((2, 1, 0, 0),)),
            (0, ((2, 1, 0, 0),)), (0, ((2, 1, 0, 0),)), (0, ((2, 1, 1, 0),)), (0, ((2, 1, 1, 0),)),
            (1, ((2, 1, 1, 6),)), (1, ((2, 1, 1, 6),)),
        ], [6], clock=5)
        self.ask_each(driven("new x deed f", "word x", deeds), "processes", [1, 2, 2, 2, 2, 2, 2, 2, 3, 3], clock=5)


class WhoseTurn(Running):
    def test_the_second_word_has_the_number_of_the_one_that_runs(self):
        # Process 3 runs when the clock comes; process 2 tells whom it took the turn from, and hands back.
        head = ("word a word b word c deed two with own do let b be 1 await a and b tell b tell a hand a to b end"
                " deed three with own do while 1 do tell 30 end end")
        things = unit_of(head, "new c deed two new c deed three hand c to 2 hand c to 3")
        # 3 leads to process 2, whose await is the fifth step; the sixth leads to 3, whose while is the seventh.
        self.ask_each(things, "told running waiting", [
            ((), 1, 0), ((), 1, 0), ((), 1, 0), ((), 2, 0), ((), 2, 0), ((), 1, 2), ((), 3, 2), ((), 3, 2),
            ((), 2, 0), ((3,), 2, 0), ((3, 2), 2, 0), ((3, 2, 30), 3, 0), ((3, 2, 30), 3, 0), ((3, 2, 30, 30), 3, 0),
        ], clock=8)

    # Handed to while it waits, process 2 goes on and waits still; the clock then finds it running.
    def test_also_the_one_that_runs(self):
        head = "word a word b word c deed two with own do let b be 1 await a and b tell b tell b tell b hand a to 1 end"
        things = unit_of(head, "new c deed two hand c to c hand c to c tell 9")
        self.ask_each(things, "told running waiting words", [
            ((), 1, 0, ((0, 0, 0),)),
            ((), 1, 0, ((0, 0, 2),)),
            ((), 2, 0, ((0, 0, 1),)),
            ((), 2, 0, ((0, 1, 1),)),
            ((), 1, 2, ((2, 1, 1),)),
            ((), 1, 2, ((2, 1, 1),)),
        ])
        things = unit_of(head, "new c deed two hand c to c hand c to 2 tell 9")
        self.ask_each(things, "told running waiting words", [
            ((), 1, 0, ((0, 0, 0),)),
            ((), 1, 0, ((0, 0, 2),)),
            ((), 2, 0, ((0, 0, 1),)),
            ((), 2, 0, ((0, 1, 1),)),
            ((), 1, 2, ((2, 1, 1),)),
            ((), 2, 2, ((2, 1, 1),)),
            ((1,), 2, 2, ((2, 1, 1),)),
            ((1, 2), 2, 0, ((2, 2, 1),)),
            ((1, 2, 2), 2, 0, ((2, 2, 1),)),
            ((1, 2, 2), 1, 0, ((2, 2, 1),)),
            ((1, 2, 2, 9), 1, 0, ((2, 2, 1),)),
        ], clock=7)

    # Process 2 awaits, is handed to, hands on from further on: there it goes on when the clock comes.
    def test_it_goes_on_behind_where_it_handed_on_last(self):
        head = ("word a word b word c deed two with own do let b be 1 await a and b tell 20 hand a to 1"
                " tell b tell 21 hand a to 1 tell 22 end")
        things = unit_of(head, "new c deed two hand c to 2 let b be 77 hand c to 2 tell 10 tell 11")
        # 4 is the await, 6 the hand, 7 and 8 are of process 2, 9 is the tell that the clock takes.
        self.ask_each(things, "told running waiting", [
            ((), 1, 0), ((), 1, 0), ((), 2, 0), ((), 2, 0), ((), 1, 2), ((), 1, 2), ((), 2, 2), ((20,), 2, 2),
            ((20,), 1, 2), ((20,), 2, 0), ((20, 1), 2, 0), ((20, 1, 21), 2, 0), ((20, 1, 21, 10), 1, 0),
            ((20, 1, 21, 10, 11), 1, 0),
        ], clock=9)

    def test_one_that_awaits_to_itself(self):
        things = unit_of("word a word b", "let b be 1 await a and b let b be 5 tell b tell b tell b")
        self.ask_each(things, "told waiting words", [
            ((), 0, ((0, 0),)), ((), 0, ((0, 1),)), ((), 1, ((1, 1),)), ((), 1, ((1, 5),)), ((5,), 1, ((1, 5),)),
            ((5, 1), 0, ((1, 1),)), ((5, 1, 1), 0, ((1, 1),)),
        ], clock=5)

    def test_it_may_await_again(self):
        things = driven("while < n 5 do end tell n")
        self.ask(things, MORE_THAN_ALL, clock=3, told=(5,), words=((2, 1, 5),), waiting=2, ended=DONE)

    def test_another_may_await_when_none_waits_any_more(self):
        head = ("word a word b word c deed two with own do let b be 1 await a and b let b be 1 hand a to b end")
        things = unit_of(head, "new c deed two hand c to 2 tell 1 let b be 1 await c and b tell 2 tell 3")
        # 5 is the tell of process 1, taken by the clock and done behind the hand, the seventh.
        self.ask(things, 7, clock=5, told=(1,), running=1, waiting=0)
        self.ask(things, 9, clock=5, told=(1,), running=1, waiting=1, words=((2, 1, 1),))
        self.ask(things, MORE_THAN_ALL, clock=5, told=(1, 2, 3), running=1, waiting=0, ended=DONE)

    def test_the_one_that_waits_may_end_all(self):
        # Behind its await process 2 is at its end.
        head = "word a word b deed two with own do await a and b end"
        things = unit_of(head, "new a deed two hand b to a tell 1 tell 2")
        self.ask(things, 3, clock=4, told=(), running=1, waiting=2, ended=None)
        self.ask(things, MORE_THAN_ALL, clock=4, steps=4, told=(), running=2, waiting=0, words=((2, 1),),
                 ended=("trap", "none"))


class WordsOfCalls(Running):
    """The second word of an await may be a param or an own of a call."""

    def test_an_own(self):
        head = ("word a deed two with own who do while 1 do let who be 1 await a and who tell * 10 who"
                " hand a to who end end")
        things = unit_of(head, "new a deed two hand a to a tell 1 tell 2 tell 3")
        self.ask(things, MORE_THAN_ALL, clock=6, told=(10, 1, 2, 3), ended=DONE)

    # Three calls of one deed are open in process 2, each with a word who; that of the innermost one has the value.
    def test_a_param_with_calls_open(self):
        head = ("word a word b deed two with own do while 1 do tell call deep 2 2 1 end end"
                " deed deep with n who own do if n then give + call deep 2 - n 1 who * 100 who end else end"
                " await a and who tell who hand a to who give + 40 who end"
                " deed three with own do while 1 do tell 30 hand b to 2 end end")
        things = unit_of(head, "new a deed two new b deed three hand a to 2 hand b to 3")
        # 14 is the await, 15 the hand to 3, 17 its tell, which the clock takes; 18 and 19 are of process 2.
        self.ask(things, 16, clock=17, told=(), running=3, waiting=2, words=((2, 1),))
        self.ask(things, 17, clock=17, told=(), running=2, waiting=0, words=((2, 1),))
        self.ask(things, 18, clock=17, told=(3,), running=2)
        self.ask(things, 19, clock=17, told=(3, 30), running=3, words=((2, 1),))
        self.ask(things, 20, clock=17, told=(3, 30), running=2, words=((2, 3),))
        self.ask(things, 21, clock=17, told=(3, 30, 243), running=2)

    # Process 2 waits in a call, is handed to, and the call ends; another call has words in its place.
    def test_of_a_call_that_has_ended(self):
        head = ("word a deed two with own x do let x be 5 do wait 1 1 tell x do other 1 6 hand a to 1 tell 99 end"
                " deed wait with who own do await a and who end"
                " deed other with n own m do let m be 7 tell n tell m hand a to 1 tell n tell m end")
        things = unit_of(head, "new a deed two hand a to 2 hand a to 2 tell 1 tell 2")
        # 5 is the await, behind 6 its call ends, 12 is the hand from within the other one, 13 and 14 are the tells.
        for clock, told in [(13, (5, 6, 7, 6, 7, 1, 2)), (14, (5, 6, 7, 1, 6, 7, 2))]:
            self.ask(things, 12, clock=clock, told=(5, 6, 7), running=1, waiting=2)
            self.ask(things, MORE_THAN_ALL, clock=clock, told=told, running=1, waiting=0, steps=17, ended=DONE)

    def test_of_a_call_that_is_called_again(self):
        # The deed's own is nought in the second call, whatever the word of the first one is given.
        head = ("word a deed two with own do do f 1 1 do f 1 0 hand a to 1 end"
                " deed f with go own who do if go then let who be 1 await a and who end"
                " else hand a to 1 tell who end end")
        things = unit_of(head, "new a deed two hand a to 2 hand a to 2 tell 1 tell 2")
        # 3 do, 4 if, 5 let, 6 await; 7 the hand; 8 do, 9 if, 10 hand; 11 the tell that the clock takes, 12 tells who.
        self.ask(things, 11, clock=11, told=(), running=2, waiting=0)
        self.ask(things, 12, clock=11, told=(0,), running=2, waiting=0)
        self.ask(things, MORE_THAN_ALL, clock=11, told=(0, 1, 2), ended=DONE)

    def test_of_an_outer_call_of_the_same_deed(self):
        # Process 2 awaits in the outer call, then calls the deed once more, in which the clock finds it.
        head = ("word a deed two with own do do f 1 1 hand a to 1 end"
                " deed f with who own do if = who 1 then await a and who tell who do f 1 8 tell who end"
                " else tell who hand a to 1 tell who end end")
        things = unit_of(head, "new a deed two hand a to 2 hand a to 2 tell 100 tell 101")
        # 3 do, 4 if, 5 await; 6 the hand back; 7 tell, 8 do, 9 if, 10 tell, 11 hand; 12 tell, taken by the clock.
        self.ask_each(things, "told running waiting", [
            ((), 1, 0), ((), 1, 0), ((), 2, 0), ((), 2, 0), ((), 2, 0), ((), 1, 2), ((), 2, 2), ((1,), 2, 2),
            ((1,), 2, 2), ((1,), 2, 2), ((1, 8), 2, 2), ((1, 8), 1, 2), ((1, 8), 2, 0), ((1, 8, 8), 2, 0),
            ((1, 8, 8, 1), 2, 0), ((1, 8, 8, 1, 100), 1, 0), ((1, 8, 8, 1, 100, 101), 1, 0),
        ], clock=12)
