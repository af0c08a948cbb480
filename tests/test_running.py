"""Running in parts and at once, what is handed in, and many drawn runs: the walker, the machine and a third telling."""

import random

from joinmill.laying import laid
from joinmill.machine import Machine
from joinmill.walking import Walker
from tests.drawn import Draw
from tests.oracle import Oracle
from tests.running import MORE_THAN_ALL, WAYS, Running, joined, unit_of

DONE = ("done",)
TEXTS = [
    "face a word x deed add 1 done",
    "unit a word y deed add with n own do let x be + x n let y be + y 1 give x end do get x end done",
    "unit b take x from a take add from a word p word q word z"
    " deed drive with own do while 1 do await p and q let z be + z 1 end end"
    " do new p deed drive hand q to p while < x 40 do get z tell call add 1 z tell call add 1 call add 1 2 end give x"
    " tell 9 end done",
]
THINGS = joined(*TEXTS)
NUMBERS = [3, 5, -4, 999, 6]


class RunAndState(Running):
    def test_run_gives_none(self):
        for run in self.runs(THINGS, NUMBERS, 3):
            for n in [0, 1, 7, MORE_THAN_ALL, 0]:
                self.assertIsNone(run.run(n))

    def test_nought_steps_change_nothing(self):
        for run in self.runs(THINGS, NUMBERS, 3):
            for turn in range(60):
                before = run.state()
                run.run(0)
                self.assertEqual(run.state(), before)
                run.run(1)

    def test_so_many_steps(self):
        for run in self.runs(unit_of("", "while 1 do end")):
            for n, steps in [(0, 0), (1, 1), (5, 6), (0, 6), (100, 106), (1, 107)]:
                run.run(n)
                self.assertEqual(run.state()[0], steps)

    def test_more_than_there_are(self):
        for run in self.runs(unit_of("", "tell 1 tell 2")):
            run.run(MORE_THAN_ALL)
            self.assertEqual(run.state(), (2, (1, 2), 0, ((),), 1, 0, 1, DONE))
            run.run(MORE_THAN_ALL)
            self.assertEqual(run.state(), (2, (1, 2), 0, ((),), 1, 0, 1, DONE))

    def test_asked_twice(self):
        for run in self.runs(THINGS, NUMBERS, 3):
            for turn in range(60):
                state = run.state()
                self.assertEqual(run.state(), state)
                run.run(1)
                if state[-1] is None:
                    self.assertNotEqual(run.state(), state)

    def test_what_was_told_stays(self):
        for run in self.runs(THINGS, NUMBERS, 3):
            before = run.state()
            run.run(MORE_THAN_ALL)
            self.assertEqual(before, (0, (), 0, ((0, 0), (0, 0, 0)), 1, 0, 1, None))

    def test_in_parts_and_at_once(self):
        for clock in [0, 1, 2, 3, 4, 7]:
            for make in WAYS:
                whole = []
                for n in range(80):
                    run = make(THINGS, NUMBERS, clock)
                    run.run(n)
                    whole.append(run.state())
                for parts in [[1] * 79, [2] * 39, [3] * 26, [1, 0, 2, 5, 0, 11, 1, 30], [79], [40, 39]]:
                    run = make(THINGS, NUMBERS, clock)
                    done = 0
                    for part in parts:
                        run.run(part)
                        done += part
                        self.assertEqual(run.state(), whole[done])


class HandedIn(Running):
    def test_numbers_stay_as_they_were(self):
        for make in WAYS:
            numbers = list(NUMBERS)
            run = make(THINGS, numbers, 2)
            run.run(MORE_THAN_ALL)
            self.assertEqual(numbers, NUMBERS)

    def test_numbers_changed_later(self):
        for make in WAYS:
            for change in [list.clear, lambda numbers: numbers.extend([7] * 9), list.reverse,
                           lambda numbers: numbers.__setitem__(1, 8)]:
                for at in [0, 4, 12]:
                    numbers = list(NUMBERS)
                    run = make(THINGS, numbers, 2)
                    other = make(THINGS, list(NUMBERS), 2)
                    run.run(at)
                    change(numbers)
                    run.run(50)
                    other.run(at + 50)
                    self.assertEqual(run.state(), other.state())

    def test_two_beside_one_another(self):
        lay = laid(THINGS)
        for make in [Walker, lambda things, numbers, clock: Machine(lay, numbers, clock)]:
            alone = make(THINGS, NUMBERS, 5)
            alone.run(20)
            state = alone.state()
            numbers = list(NUMBERS)
            first, second = make(THINGS, numbers, 5), make(THINGS, numbers, 5)
            for turn in range(20):
                first.run(1)
                if turn % 2:
                    second.run(1)
            self.assertEqual(first.state(), state)
            second.run(10)
            self.assertEqual(second.state(), state)
            self.assertEqual(make(THINGS, NUMBERS, 5).state()[0], 0)

    def test_two_with_other_numbers_and_clocks(self):
        lay = laid(THINGS)
        for make in [Walker, lambda things, numbers, clock: Machine(lay, numbers, clock)]:
            first, second = make(THINGS, [1, 2], 0), make(THINGS, [9], 3)
            first.run(30)
            second.run(30)
            for run, numbers, clock in [(first, [1, 2], 0), (second, [9], 3)]:
                alone = make(THINGS, numbers, clock)
                alone.run(30)
                self.assertEqual(run.state(), alone.state())
            self.assertNotEqual(first.state(), second.state())

    def test_things_stay_as_they_were(self):
        for make in WAYS:
            make(THINGS, NUMBERS, 2).run(50)
        self.assertEqual(THINGS, joined(*TEXTS))


class Drawn(Running):
    DRAWS = 400
    STEPS = 90

    def drawn(self, seed):
        source = random.Random(seed)
        things = Draw(source).things()
        numbers = [source.choice([0, 1, 2, 3, -5, 999999]) for turn in range(source.randint(0, 6))]
        return things, numbers, source.choice([0, 1, 2, 3, 4, 5, 7, 11]), source

    def test_the_same_behind_every_number_of_steps(self):
        ends = {}
        lengths = []
        switches = 0
        for seed in range(self.DRAWS):
            things, numbers, clock, source = self.drawn(seed)
            runs = [make(things, numbers, clock) for make in [Oracle] + WAYS]
            states = [[run.state() for run in runs]]
            while states[-1][0][-1] is None and len(states) <= self.STEPS:
                for run in runs:
                    run.run(1)
                states.append([run.state() for run in runs])
            for told, walked, worked in states:
                self.assertEqual(walked, told, seed)
                self.assertEqual(worked, told, seed)
            self.judge_parts(things, numbers, clock, source, [row[0] for row in states])
            ended = states[-1][0][-1]
            ends[ended] = ends.get(ended, 0) + 1
            lengths.append(len(states))
            switches += len([1 for row, after in zip(states, states[1:])
                             if row[0][5] not in (0, row[0][4], after[0][5])])
        # What is drawn is worth asking: it ends in every way, and not too soon; the clock found many that waited.
        kinds = [None, DONE] + [("trap", kind) for kind in ["great", "deep", "full", "none", "waits"]]
        self.assertEqual(set(ends), set(kinds), ends)
        self.assertGreater(sum(length > self.STEPS for length in lengths), self.DRAWS // 5)
        self.assertGreater(switches, self.DRAWS)

    def judge_parts(self, things, numbers, clock, source, states):
        last = len(states) - 1
        for make in WAYS:
            at_once = source.randint(0, last)
            run = make(things, numbers, clock)
            run.run(at_once)
            self.assertEqual(run.state(), states[at_once])
            run, done = make(things, numbers, clock), 0
            while done < last:
                part = source.randint(0, last - done)
                run.run(part)
                done += part
                self.assertEqual(run.state(), states[done])
