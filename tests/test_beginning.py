from tests.running import MORE_THAN_ALL, Running, joined, unit_of

DONE = ("done",)


class Beginning(Running):
    def test_no_step_done(self):
        things = unit_of("word x word y", "let x be 1 tell 5 get y")
        for run in self.runs(things, [7]):
            self.assertEqual(run.state(), (0, (), 0, ((0, 0),), 1, 0, 1, None))
            run.run(0)
            self.assertEqual(run.state(), (0, (), 0, ((0, 0),), 1, 0, 1, None))

    def test_no_step_to_do(self):
        for n in [0, 1, MORE_THAN_ALL]:
            for run in self.runs(unit_of("word x", ""), [7], 1):
                run.run(n)
                self.assertEqual(run.state(), (0, (), 0, ((0,),), 1, 0, 1, DONE))

    def test_no_step_to_do_is_the_end_at_once(self):
        for run in self.runs(unit_of("", "")):
            before = run.state()
            run.run(0)
            self.assertEqual(run.state(), before)
            self.assertEqual(before, (0, (), 0, ((),), 1, 0, 1, DONE))

    def test_one_unit(self):
        things = unit_of("word x", "let x be 4 tell + x 1")
        self.ask(things, 1, steps=1, told=(), words=((4,),), ended=None)
        self.ask(things, 2, steps=2, told=(5,), words=((4,),), running=1, waiting=0, processes=1, ended=DONE)

    def test_kinds(self):
        for run in self.runs(unit_of("word x", "get x tell = x 3 tell < x 4"), [3]):
            run.run(3)
            steps, told, taken, words, running, waiting, processes, ended = run.state()
            self.assertEqual((told, words), ((1, 1), ((3,),)))
            for number in [steps, taken, running, waiting, processes] + list(told) + list(words[0]):
                self.assertIs(type(number), int)
            for row in [run.state(), told, words, words[0], ended]:
                self.assertIs(type(row), tuple)


class Several(Running):
    THINGS = joined(
        "face a word av done", "face b word bv done",
        "unit a word aw do tell 1 let av be 11 let aw be 12 tell 2 end done",
        "unit b take av from a word bw do tell av let bw be 22 end done",
        "unit c take bv from b take av from a word cw word cx do tell bv let bv be 33 let cx be av end done",
    )

    def test_order_of_the_blocks(self):
        self.assertEqual([unit[0] for face, unit in self.THINGS], ["a", "b", "c"])
        self.ask_each(self.THINGS, "told",
                      [(), (1,), (1,), (1,), (1, 2), (1, 2, 11), (1, 2, 11), (1, 2, 11, 0), (1, 2, 11, 0)])

    def test_words_of_all_units(self):
        self.ask(self.THINGS, 0, words=((0, 0), (0, 0), (0, 0)))
        self.ask(self.THINGS, 3, words=((11, 12), (0, 0), (0, 0)))
        self.ask(self.THINGS, 6, words=((11, 12), (0, 22), (0, 0)))
        self.ask(self.THINGS, 9, words=((11, 12), (33, 22), (0, 11)))

    def test_done_behind_the_last(self):
        self.ask(self.THINGS, 8, steps=8, ended=None)
        self.ask(self.THINGS, 9, steps=9, ended=DONE)
        self.ask(self.THINGS, 10, steps=9, ended=DONE)

    def test_empty_blocks_among_others(self):
        things = joined("face a word av done", "face b word bv done", "face c word cv done", "unit a do end done",
                        "unit b take av from a do tell 1 end done", "unit c take bv from b do end done",
                        "unit d take cv from c do end done")
        self.assertEqual(len(things), 4)
        self.ask(things, 0, steps=0, ended=None)
        self.ask(things, 1, steps=1, told=(1,), ended=DONE)

    def test_words_of_the_face_ahead_of_its_own(self):
        things = joined("face u word b word d done",
                        "unit u word a word c do let a be 1 let b be 2 let c be 3 let d be 4 end done")
        self.ask_end(things, DONE, words=((2, 4, 1, 3),))

    def test_units_without_words(self):
        things = joined("face a deed f 0 done", "unit a deed f with own do end do end done",
                        "unit b take f from a do do f 0 end done")
        self.ask_end(things, DONE, words=((), ()))


class Taken(Running):
    def test_a_taken_word_is_that_of_its_unit(self):
        things = joined("face a word x deed look 0 done",
                        "unit a deed look with own do give x end do let x be 3 end done",
                        "unit b take x from a take look from a word y do tell x let x be 8 tell call look 0 end done")
        self.ask_end(things, DONE, told=(3, 8), words=((8,), (0,)))

    def test_the_second_word_of_a_face(self):
        things = joined("face a word p word q done", "unit a word r do end done",
                        "unit b take q from a word p word r do let q be 1 let p be 2 let r be 3 end done")
        self.ask_end(things, DONE, words=((0, 1, 0), (2, 3)))

    # Both have a word n and a deed step; each works with its own.
    def test_a_taken_deed_works_with_the_words_of_its_unit(self):
        things = joined(
            "face a deed count 1 done",
            "unit a word n deed step with own do give 1 end"
            " deed count with by own do let n be + n * by call step 0 give n end do end done",
            "unit b take count from a word n deed step with own do give 100 end"
            " do let n be 50 tell call count 1 2 tell call count 1 3 tell n tell call step 0 end done",
        )
        self.ask_end(things, DONE, told=(2, 5, 50, 100), words=((5,), (50,)))

    def test_one_word_seen_from_two(self):
        things = joined("face a word x done", "unit a do end done", "face b deed add 0 done",
                        "unit b take x from a deed add with own do let x be + x 1 end do end done",
                        "unit c take x from a take add from b do do add 0 let x be * x 10 do add 0 tell x end done")
        self.ask_end(things, DONE, told=(11,), words=((11,), (), ()))

    def test_units_that_take_from_one_another(self):
        things = joined(
            "face a word x deed fa 1 done", "face b word y deed fb 1 done",
            "unit a take y from b take fb from b deed fa with n own do let x be + x 1"
            " if n then give call fb 1 - n 1 end else end give 100 end do let y be 5 tell call fb 1 3 end done",
            "unit b take x from a take fa from a deed fb with n own do let y be + y 10"
            " if n then give call fa 1 - n 1 end else end give 200 end do let x be 7 tell call fa 1 2 end done",
        )
        self.assertEqual([unit[0] for face, unit in things], ["a", "b"])
        self.ask_end(things, DONE, told=(100, 100), words=((9,), (35,)))

    def test_a_process_of_a_taken_deed(self):
        things = joined("face a deed work 0 done",
                        "unit a word n deed work with own do let n be 6 hand n to 1 end do end done",
                        "unit b take work from a word n do new n deed work hand n to n tell n end done")
        self.ask_end(things, DONE, told=(1,), words=((2,), (1,)), processes=2)

    def test_a_deed_of_the_own_face(self):
        things = joined("face u word w deed f 1 done",
                        "unit u deed f with n own do let w be n give + n 1 end do tell call f 1 5 end done")
        self.ask_end(things, DONE, told=(6,), words=((5,),))


class Ending(Running):
    def test_others_need_not_have_ended(self):
        things = unit_of("word p deed f with own do hand p to 1 tell 9 end",
                         "new p deed f new p deed f hand p to 2 tell 3")
        self.ask_end(things, DONE, told=(3,), processes=3, running=1)

    def test_the_end_comes_only_where_the_first_process_ends(self):
        things = unit_of("word p deed f with own do while 1 do end end", "new p deed f hand p to p")
        self.ask(things, 100, steps=100, running=2, ended=None)
