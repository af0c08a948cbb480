"""Runs what is joined by walking the units themselves."""

from joinmill.meaning import words_of
from joinmill.mill import MOST_CALLS, Mill, keep, kept

# What is still to be done in a block is kept as a row of tasks, the next one last, so that a process may stop between
# any two of them and go on later. Those with these words stand where a step is counted; behind the count the word is
# the other one, and the task is done.
STEP_TASKS = {"begin": "act", "call": "enter", "again": "ask"}


# One block that is walked, that of a unit or that of a deed which was called. Its names are asked of its own words (the
# params and owns of a deed), then of the top of the unit with this place.
class Walk:
    def __init__(self, place, own_words, block):
        self.place = place
        self.own_words = own_words
        self.tasks = tasks_of_block(block)
        self.worked = []


# The blocks of units that are not at their end, the first one last, and behind them the calls that have not ended.
class WalkedProcess:
    def __init__(self, blocks, calls):
        self.blocks = blocks
        self.calls = calls

    def has_walk(self):
        return len(self.calls) + len(self.blocks) > 0

    def walk_at_hand(self):
        return self.calls[-1] if len(self.calls) > 0 else self.blocks[-1]


class Walker(Mill):
    def __init__(self, things, numbers, clock):
        Mill.__init__(self, [len(words_of(unit, face)) for face, unit in things], numbers, clock)
        self.tops = tops_of(things)
        blocks = [Walk(place, {}, thing[1][4]) for place, thing in enumerate(things)]
        self.add_process(WalkedProcess(list(reversed(blocks)), []))
        self.go_on()

    def pass_step(self):
        tasks = self.process_that_runs().walk_at_hand().tasks
        task = tasks.pop()
        tasks.append((STEP_TASKS[task[0]],) + task[1:])

    def go_on(self):
        while self.ended is None:
            walk = self.process_that_runs().walk_at_hand()
            if len(walk.tasks) == 0:
                self.leave(0)
            elif walk.tasks[-1][0] in STEP_TASKS:
                return
            else:
                task = walk.tasks.pop()
                TASK_DOINGS[task[0]](self, walk, task)

    def leave(self, value):
        process = self.process_that_runs()
        if len(process.calls) == 0:
            process.blocks.pop()
            if not process.has_walk():
                self.ended = ("done",)
            return
        process.calls.pop()
        if process.has_walk():
            process.walk_at_hand().worked.append(value)
        else:
            self.trap("none")

    def home_of(self, walk, name):
        if name in walk.own_words:
            return (walk.own_words, name)
        meaning = self.tops[walk.place][name]
        return (self.words[meaning[0]], meaning[1])

    def walk_of_deed(self, walk, name, parts):
        meaning = self.tops[walk.place][name]
        deed = meaning[1]
        own_words = dict(zip(deed[1], parts))
        for own in deed[2]:
            own_words[own] = 0
        return Walk(meaning[0], own_words, deed[3])


# Of each unit what the names at its top mean: the place of a unit, and the place of a word there or a deed of it.
def tops_of(things):
    owned = {}
    for place, thing in enumerate(things):
        owned[thing[1][0]] = meanings_owned(place, thing[0], thing[1])
    tops = []
    for face, unit in things:
        top = dict(owned[unit[0]])
        for source, name in unit[1]:
            top[name] = owned[source][name]
        tops.append(top)
    return tops


def meanings_owned(place, face, unit):
    meanings = {}
    for word_place, name in enumerate(words_of(unit, face)):
        meanings[name] = (place, word_place)
    for deed in unit[3]:
        meanings[deed[0]] = (place, deed)
    return meanings


def tasks_of_block(block):
    return [("begin", statement) for statement in reversed(block)]


def tasks_of_parts(parts):
    return [("work", part) for part in reversed(parts)]


def do_act(walker, walk, task):
    statement = task[1]
    STATEMENT_DOINGS[statement[0]](walker, walk, statement)


def act_let(walker, walk, statement):
    walk.tasks.extend([("let", statement[1]), ("work", statement[2])])


def act_if(walker, walk, statement):
    walk.tasks.extend([("choose", statement[2], statement[3]), ("work", statement[1])])


def act_while(walker, walk, statement):
    walk.tasks.extend([("loop", statement), ("work", statement[1])])


def act_do(walker, walk, statement):
    walk.tasks.extend([("drop",), ("enter", statement[1], len(statement[2]))] + tasks_of_parts(statement[2]))


def act_give(walker, walk, statement):
    walk.tasks.extend([("leave",), ("work", statement[1])])


def act_tell(walker, walk, statement):
    walk.tasks.extend([("tell",), ("work", statement[1])])


def act_get(walker, walk, statement):
    keep(walker.home_of(walk, statement[1]), walker.next_number())


def act_new(walker, walk, statement):
    process = WalkedProcess([], [walker.walk_of_deed(walk, statement[2], [])])
    walk.worked.append(walker.add_process(process))
    walk.tasks.append(("let", statement[1]))


def act_hand(walker, walk, statement):
    walk.tasks.extend([("hand", statement[1]), ("work", statement[2])])


def act_await(walker, walk, statement):
    walker.wait(walker.home_of(walk, statement[1]), walker.home_of(walk, statement[2]))


def do_ask(walker, walk, task):
    act_while(walker, walk, task[1])


def do_loop(walker, walk, task):
    statement = task[1]
    if walk.worked.pop() != 0:
        walk.tasks.append(("again", statement))
        walk.tasks.extend(tasks_of_block(statement[2]))


def do_choose(walker, walk, task):
    block = task[1] if walk.worked.pop() != 0 else task[2]
    walk.tasks.extend(tasks_of_block(block))


def do_let(walker, walk, task):
    keep(walker.home_of(walk, task[1]), walk.worked.pop())


def do_drop(walker, walk, task):
    walk.worked.pop()


def do_leave(walker, walk, task):
    walker.leave(walk.worked.pop())


def do_tell(walker, walk, task):
    walker.told.append(walk.worked.pop())


def do_hand(walker, walk, task):
    walker.hand(walker.home_of(walk, task[1]), walk.worked.pop())


def do_enter(walker, walk, task):
    calls = walker.process_that_runs().calls
    if len(calls) == MOST_CALLS:
        walker.trap("deep")
        return
    first = len(walk.worked) - task[2]
    calls.append(walker.walk_of_deed(walk, task[1], walk.worked[first:]))
    walk.worked = walk.worked[:first]


def do_work(walker, walk, task):
    expression = task[1]
    word = expression[0]
    if word == "number":
        walk.worked.append(expression[1])
    elif word == "name":
        walk.worked.append(kept(walker.home_of(walk, expression[1])))
    elif word == "call":
        walk.tasks.append(("call", expression[1], len(expression[2])))
        walk.tasks.extend(tasks_of_parts(expression[2]))
    else:
        walk.tasks.append(("sign", word))
        walk.tasks.extend(tasks_of_parts(expression[1:]))


def do_sign(walker, walk, task):
    right = walk.worked.pop()
    left = walk.worked.pop()
    walk.worked.append(walker.signed(task[1], left, right))


STATEMENT_DOINGS = {
    "let": act_let,
    "if": act_if,
    "while": act_while,
    "do": act_do,
    "give": act_give,
    "tell": act_tell,
    "get": act_get,
    "new": act_new,
    "hand": act_hand,
    "await": act_await,
}
TASK_DOINGS = {
    "act": do_act,
    "enter": do_enter,
    "ask": do_ask,
    "work": do_work,
    "sign": do_sign,
    "let": do_let,
    "choose": do_choose,
    "loop": do_loop,
    "drop": do_drop,
    "leave": do_leave,
    "tell": do_tell,
    "hand": do_hand,
}
