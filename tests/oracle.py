"""Running, told a third time, as near to the document's words as Python's generators allow.

A process is a generator: it yields "step" where a step is counted, and "switch" where another process may go on.
"""


class Trap(Exception):
    def __init__(self, kind):
        super().__init__(kind)
        self.kind = kind


class Give(Exception):
    def __init__(self, value):
        super().__init__(value)
        self.value = value


class Process:
    def __init__(self, generator):
        self.generator = generator
        self.calls = 0
        self.at_step = False


class Scope:
    """The words that are seen from one block: those of the call hide those of the top."""

    def __init__(self, unit, own):
        self.unit = unit
        self.own = own

    def home(self, name):
        return self.own if name in self.own else self.unit.homes[name]


class Unit:
    def __init__(self, face, unit):
        self.source = unit
        self.words = {name: 0 for name in (face[1] if face else ()) + unit[2]}
        self.homes = {name: self.words for name in self.words}
        self.deeds = {deed[0]: (self, deed) for deed in unit[3]}


class Oracle:
    def __init__(self, things, numbers, clock):
        self.units = [Unit(face, unit) for face, unit in things]
        named = {unit.source[0]: unit for unit in self.units}
        for unit in self.units:
            for source, name in unit.source[1]:
                if name in named[source].words:
                    unit.homes[name] = named[source].words
                else:
                    unit.deeds[name] = (named[source], [deed for deed in named[source].source[3] if deed[0] == name][0])
        self.numbers = tuple(numbers)
        self.clock = clock
        self.steps = self.taken = self.waiting = 0
        self.told = []
        self.awaited = self.ended = None
        self.running = 1
        self.processes = [Process(self.first())]
        self.settle()

    def run(self, n):
        while n > 0 and self.ended is None:
            n -= 1
            self.steps += 1
            self.processes[self.running - 1].at_step = False
            if self.clock and self.steps % self.clock == 0 and self.waiting:
                words, name = self.awaited
                words[name] = self.running
                self.running, self.waiting = self.waiting, 0
            self.settle()

    def settle(self):
        while self.ended is None and not self.processes[self.running - 1].at_step:
            process = self.processes[self.running - 1]
            try:
                process.at_step = next(process.generator) == "step"
            except Trap as trap:
                self.ended = ("trap", trap.kind)

    def state(self):
        words = tuple(tuple(unit.words.values()) for unit in self.units)
        return (self.steps, tuple(self.told), self.taken, words, self.running, self.waiting, len(self.processes),
                self.ended)

    def first(self):
        for unit in self.units:
            try:
                yield from self.block(unit.source[4], Scope(unit, {}))
            except Give:
                pass
        self.ended = ("done",)
        yield "switch"

    def other(self, deed):
        yield from self.call(deed, [])
        raise Trap("none")

    def call(self, found, parts):
        unit, deed = found
        process = self.processes[self.running - 1]
        if process.calls == 12:
            raise Trap("deep")
        process.calls += 1
        own = dict(zip(deed[1], parts))
        own.update({name: 0 for name in deed[2]})
        value = 0
        try:
            yield from self.block(deed[3], Scope(unit, own))
        except Give as give:
            value = give.value
        process.calls -= 1
        return value

    def block(self, block, scope):
        for statement in block:
            yield "step"
            yield from getattr(self, "do_" + statement[0])(scope, *statement[1:])

    def work(self, expression, scope):
        word = expression[0]
        if word == "number":
            return expression[1]
        if word == "name":
            return scope.home(expression[1])[expression[1]]
        parts = []
        for part in expression[2] if word == "call" else expression[1:]:
            parts.append((yield from self.work(part, scope)))
        if word == "call":
            yield "step"
            return (yield from self.call(scope.unit.deeds[expression[1]], parts))
        left, right = parts
        value = {"+": left + right, "-": left - right, "*": left * right, "<": int(left < right),
                 "=": int(left == right)}[word]
        if abs(value) > 999999:
            raise Trap("great")
        return value

    def do_let(self, scope, name, expression):
        value = yield from self.work(expression, scope)
        scope.home(name)[name] = value

    def do_if(self, scope, expression, first, second):
        value = yield from self.work(expression, scope)
        yield from self.block(first if value else second, scope)

    def do_while(self, scope, expression, block):
        while (yield from self.work(expression, scope)):
            yield from self.block(block, scope)
            yield "step"

    def do_do(self, scope, name, parts):
        values = []
        for part in parts:
            values.append((yield from self.work(part, scope)))
        yield from self.call(scope.unit.deeds[name], values)

    def do_give(self, scope, expression):
        raise Give((yield from self.work(expression, scope)))

    def do_tell(self, scope, expression):
        self.told.append((yield from self.work(expression, scope)))

    def do_get(self, scope, name):
        value = 0
        if self.taken < len(self.numbers):
            value = self.numbers[self.taken]
            self.taken += 1
        scope.home(name)[name] = value
        yield from ()

    def do_new(self, scope, name, deed):
        if len(self.processes) == 6:
            raise Trap("full")
        self.processes.append(Process(self.other(scope.unit.deeds[deed])))
        scope.home(name)[name] = len(self.processes)
        yield from ()

    def do_hand(self, scope, name, expression):
        yield from self.hand_to((yield from self.work(expression, scope)), scope, name)

    def do_await(self, scope, name, second):
        if self.waiting:
            raise Trap("waits")
        value = scope.home(second)[second]
        if 1 <= value <= len(self.processes):
            self.waiting = self.running
            self.awaited = (scope.home(second), second)
        yield from self.hand_to(value, scope, name)

    def hand_to(self, number, scope, name):
        if not 1 <= number <= len(self.processes):
            raise Trap("none")
        scope.home(name)[name] = self.running
        self.running = number
        yield "switch"
