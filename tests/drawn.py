"""Draws sets of units that fit and join, for running: loops, calls and processes that mostly live for long."""

from joinmill.joining import things_of
from joinmill.shelf import Shelf
from joinmill.writing import written

SIGNS = ["+", "-", "*", "<", "="]
NUMBERS = [0, 0, 1, 1, 2, 3, 4, 5, 6, 7, -1, -2, 100, 1000, 999999, -999999]


class Scope:
    def __init__(self, words, deeds):
        self.words = words
        self.deeds = deeds

    # Params and owns hide what stands at the top.
    def within(self, names):
        return Scope([name for name in self.words if name not in names] + names,
                     {name: count for name, count in self.deeds.items() if name not in names})


class Draw:
    def __init__(self, random):
        self.random = random
        # How many there are when the first unit has made others at its beginning.
        self.processes = random.choice([1, 2, 3, 4, 4, 5, 6])
        self.kinds = random.choice([
            "let let if while do tell get hand hand await give new",
            "let do do tell hand hand await await",
            "let let let if while do tell get give",
            "let if do tell hand await",
            "let while do tell await await",
        ]).split()
        # One process alone that awaits lives longer: two of them mostly end in a trap.
        self.has_driver = random.random() < 0.5
        if self.has_driver:
            self.kinds = [kind for kind in self.kinds if kind not in ("await", "give")]

    def chance(self, share):
        return self.random.random() < share

    def some(self, names, most):
        return self.random.sample(names, self.random.randint(0, min(most, len(names))))

    def things(self):
        random = self.random
        names = ["a", "b", "c", "d"][:random.randint(1, 4)]
        faces, own = {}, {}
        for name in names:
            words = [name + letter for letter in "vwxyz"[:random.randint(1, 5)]]
            deeds = {name + letter: random.choice([0, 0, 1, 2, 4]) for letter in "fgh"[:random.randint(1, 3)]}
            told = self.some(words, 4)
            shown = self.some(list(deeds), 3)
            # Deeds for new processes, which none but an endless loop keeps alive; the second one awaits in its loop.
            deeds[name + "p"] = 0
            deeds[name + "q"] = 0
            if self.chance(0.6):
                shown.append(name + "p")
            own[name] = (words, told, deeds)
            faces[name] = (name, tuple(told), tuple([(deed, deeds[deed]) for deed in shown]))
        shelf = Shelf()
        kept = [name for name in names if self.chance(0.9)]
        for name in kept:
            shelf.put(written(faces[name]))
        for name in names:
            shelf.put(written(self.unit(name, kept, faces, own)))
        first = things_of(shelf, names[-1])[0][1]
        shelf.put(written(first[:4] + (self.news(first) + first[4],)))
        return things_of(shelf, names[-1])

    def unit(self, name, kept, faces, own):
        words, told, deeds = own[name]
        scope = Scope(list(words), dict(deeds))
        takes = []
        for other in kept:
            shown = list(faces[other][1]) + [deed[0] for deed in faces[other][2]]
            if other != name:
                takes.extend([(other, shown_name) for shown_name in self.some(shown, 3)])
        takes = takes[:8]
        for source, taken in takes:
            if taken in faces[source][1]:
                scope.words.append(taken)
            else:
                scope.deeds[taken] = dict(faces[source][2])[taken]
        made = []
        # Mostly without those that were drawn ahead of it, since calls that go round end in nothing but a trap.
        callable_deeds = dict(scope.deeds)
        for deed, count in deeds.items():
            if self.chance(0.9):
                callable_deeds.pop(deed)
            made.append(self.deed(deed, count, Scope(scope.words, callable_deeds)))
        self.random.shuffle(made)
        rest = [word for word in words if name not in kept or word not in told]
        return (name, tuple(takes), tuple(rest), tuple(made), self.block(scope, 0, 5))

    def news(self, unit):
        word = unit[0] + "v"
        makers = [name for name in [deed[0] for deed in unit[3]] + [take[1] for take in unit[1]] if name.endswith("p")]
        made = [("new", word, self.random.choice(makers)) for turn in range(self.processes - 1)]
        if made and self.has_driver:
            made[0] = ("new", word, unit[0] + "q")
            made.append(("hand", word, ("number", 2)))
        return tuple(made)

    def deed(self, name, count, scope):
        pool = ["i", "j", "k", "l", "m", "n", "o"] + self.some(scope.words + list(scope.deeds), 1)
        self.random.shuffle(pool)
        params = tuple(pool[:count])
        owns = tuple(pool[count:count + self.random.choice([0, 1, 2, 3])])
        inner = scope.within(list(params + owns))
        if name[1:] not in ("p", "q"):
            return (name, params, owns, self.block(inner, 0, 4))
        block = self.block(inner, 1, 4) + (self.statement(inner, 1, "hand" if name[1:] == "p" else "await"),)
        return (name, params, owns, (("while", ("number", 1), block),))

    def block(self, scope, depth, most):
        return tuple([self.statement(scope, depth, self.random.choice(self.kinds))
                      for turn in range(self.random.randint(0, most))])

    def statement(self, scope, depth, kind):
        random = self.random
        word = random.choice(scope.words)
        if kind == "if" and depth < 3:
            blocks = (self.block(scope, depth + 1, 3), self.block(scope, depth + 1, 3))
            return ("if", self.expression(scope, 2)) + blocks
        if kind == "while" and depth < 3:
            block = self.block(scope, depth + 1, 3)
            if self.chance(0.7):
                grown = ("let", word, ("+", ("name", word), ("number", 1)))
                return ("while", ("<", ("name", word), ("number", random.randint(0, 4))), block + (grown,))
            return ("while", self.expression(scope, 1), block)
        if kind == "do" and scope.deeds:
            return ("do",) + self.called(scope, 2)
        if kind in ("give", "tell"):
            return (kind, self.expression(scope, 3))
        if kind == "get":
            return ("get", word)
        makers = [deed for deed, count in scope.deeds.items() if count == 0]
        if kind == "new" and makers:
            return ("new", word, random.choice(makers))
        if kind == "hand":
            return ("hand", word, self.process(scope))
        if kind == "await":
            second = random.choice(scope.words)
            # A word that nobody gave a process's number would end nearly all that is drawn here.
            given = (("let", second, self.process(scope)),) if self.chance(0.9) else ()
            return ("if", ("number", 1), given + (("await", word, second),), ())
        return ("let", word, self.process(scope) if self.chance(0.4) else self.expression(scope, 3))

    def process(self, scope):
        if self.chance(0.95):
            return ("number", self.random.randint(1, self.processes))
        return self.expression(scope, 1)

    def called(self, scope, depth):
        name = self.random.choice(list(scope.deeds))
        return (name, tuple([self.expression(scope, depth - 1) for turn in range(scope.deeds[name])]))

    def expression(self, scope, depth):
        kind = self.random.random()
        if depth > 0 and kind < 0.25 and scope.deeds:
            return ("call",) + self.called(scope, depth)
        if depth > 0 and kind < 0.55:
            sign = self.random.choice(SIGNS)
            return (sign, self.expression(scope, depth - 1), self.expression(scope, depth - 1))
        if kind < 0.8:
            return ("name", self.random.choice(scope.words))
        return ("number", self.random.choice(NUMBERS))
