"""What the tests of running share: whatever they ask, they ask of the walker and of the machine."""

import unittest

from joinmill.joining import things_of
from joinmill.laying import laid
from joinmill.machine import Machine
from joinmill.shelf import Shelf
from joinmill.walking import Walker

FIELDS = ["steps", "told", "taken", "words", "running", "waiting", "processes", "ended"]
MORE_THAN_ALL = 10 ** 9


def machine(things, numbers, clock):
    return Machine(laid(things), numbers, clock)


WAYS = [Walker, machine]


# Joined from the last of the texts.
def joined(*texts):
    shelf = Shelf()
    for text in texts:
        shelf.put(text)
    return things_of(shelf, texts[-1].split(" ")[1])


# A unit called u: what stands ahead of its block, and its block.
def unit_of(head, block):
    return joined(" ".join([part for part in ["unit u", head.strip(), "do", block.strip(), "end done"] if part != ""]))


class Running(unittest.TestCase):
    def runs(self, things, numbers=(), clock=0):
        return [make(things, list(numbers), clock) for make in WAYS]

    # The told fields of the state behind n steps.
    def ask(self, things, n, numbers=(), clock=0, **fields):
        for run in self.runs(things, numbers, clock):
            run.run(n)
            state = dict(zip(FIELDS, run.state()))
            self.assertEqual({field: state[field] for field in fields}, fields, type(run).__name__)

    def ask_end(self, things, ended, **fields):
        self.ask(things, MORE_THAN_ALL, ended=ended, **fields)

    # Some fields of the state (one alone stands for itself): ahead of all steps, then behind each of them.
    def ask_each(self, things, fields, expected, numbers=(), clock=0):
        places = [FIELDS.index(field) for field in fields.split(" ")]
        for run in self.runs(things, numbers, clock):
            states = [run.state()]
            for turn in range(len(expected) - 1):
                run.run(1)
                states.append(run.state())
            if len(places) == 1:
                seen = [state[places[0]] for state in states]
            else:
                seen = [tuple([state[place] for place in places]) for state in states]
            self.assertEqual(seen, expected, type(run).__name__)
