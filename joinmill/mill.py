"""What the walker and the machine have in common: words, processes, the clock, and what is told of them."""

from joinmill.things import is_number

MOST_PROCESSES = 6
MOST_CALLS = 12


# Each way of running adds what it alone knows how to do: pass_step(), with which the process that runs leaves the mark
# of its step behind, and go_on(), which does all that stands ahead of the next step.
class Mill:
    def __init__(self, counts, numbers, clock):
        self.words = [[0] * count for count in counts]
        self.numbers = list(numbers)
        self.clock = clock
        self.steps = 0
        self.told = []
        self.got = 0
        self.processes = []
        self.running = 1
        self.waiting = 0
        self.awaited = None
        self.ended = None

    def run(self, n):
        for turn in range(n):
            if self.ended is not None:
                return
            self.do_step()

    # The mark is passed ahead of the clock: a process from which the clock takes the turn does what its step does when
    # it is handed to again, and the step is not counted once more.
    def do_step(self):
        self.steps += 1
        self.pass_step()
        if self.clock > 0 and self.steps % self.clock == 0:
            self.let_clock_come()
        self.go_on()

    def let_clock_come(self):
        if self.waiting > 0:
            keep(self.awaited, self.running)
            self.running = self.waiting
            self.waiting = 0

    def process_that_runs(self):
        return self.processes[self.running - 1]

    def next_number(self):
        if self.got == len(self.numbers):
            return 0
        self.got += 1
        return self.numbers[self.got - 1]

    def signed(self, sign, left, right):
        value = value_of_sign(sign, left, right)
        if not is_number(value):
            self.trap("great")
        return value

    # The number of the new process; 0 behind a trap, where nobody is left to use it.
    def add_process(self, process):
        if len(self.processes) == MOST_PROCESSES:
            self.trap("full")
            return 0
        self.processes.append(process)
        return len(self.processes)

    def hand(self, home, number):
        if not self.has_process(number):
            self.trap("none")
            return
        keep(home, self.running)
        self.running = number

    def wait(self, home, second):
        if self.waiting > 0:
            self.trap("waits")
            return
        number = kept(second)
        if self.has_process(number):
            self.waiting = self.running
            self.awaited = second
        self.hand(home, number)

    def has_process(self, number):
        return 1 <= number <= len(self.processes)

    def trap(self, kind):
        self.ended = ("trap", kind)

    def state(self):
        words = tuple([tuple(row) for row in self.words])
        return (self.steps, tuple(self.told), self.got, words, self.running, self.waiting, len(self.processes),
                self.ended)


# A home is where a word is kept, the row (or the dict) and the place in it. The home of a word of a call that has ended
# may still be given a value, which then nobody sees.
def kept(home):
    return home[0][home[1]]


def keep(home, value):
    home[0][home[1]] = value


def value_of_sign(sign, left, right):
    if sign == "+":
        return left + right
    if sign == "-":
        return left - right
    if sign == "*":
        return left * right
    holds = left < right if sign == "<" else left == right
    return 1 if holds else 0
