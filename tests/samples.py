"""Things and their texts, written out by hand, for the tests to share."""

KEPT = ("face unit take from word deed with own do done let be if then else while give tell get new hand to await"
        " call and end").split(" ")

ONE = ("number", 1)

EXPRESSIONS = [
    (("number", 0), "0"),
    (("number", 1), "1"),
    (("number", 10), "10"),
    (("number", -1), "-1"),
    (("number", 999999), "999999"),
    (("number", -999999), "-999999"),
    (("name", "a"), "a"),
    (("name", "abcdefgh"), "abcdefgh"),
    (("call", "f", ()), "call f 0"),
    (("call", "f", (ONE,)), "call f 1 1"),
    (("call", "f", (("number", -2), ("name", "x"))), "call f 2 -2 x"),
    (("call", "f", (ONE, ("call", "g", ()), ("+", ONE, ("name", "y")))), "call f 3 1 call g 0 + 1 y"),
    (("call", "f", (("number", 4), ("number", 3), ("number", 2), ONE)), "call f 4 4 3 2 1"),
    (("+", ("name", "x"), ("name", "y")), "+ x y"),
    (("-", ("number", 3), ("number", -4)), "- 3 -4"),
    (("*", ("number", 3), ("-", ("number", 5), ("number", 6))), "* 3 - 5 6"),
    (("<", ("+", ONE, ("number", 2)), ("number", 3)), "< + 1 2 3"),
    (("=", ("name", "x"), ("call", "f", (ONE,))), "= x call f 1 1"),
]

STATEMENTS = [
    (("let", "x", ("number", 5)), "let x be 5"),
    (("if", ("name", "x"), (), ()), "if x then end else end"),
    (("if", ("<", ("name", "x"), ONE), (("get", "x"),), (("give", ONE), ("tell", ("name", "y")))),
     "if < x 1 then get x end else give 1 tell y end"),
    (("while", ONE, ()), "while 1 do end"),
    (("while", ("name", "x"), (("while", ("name", "y"), (("get", "y"),)), ("get", "x"))),
     "while x do while y do get y end get x end"),
    (("do", "f", ()), "do f 0"),
    (("do", "f", (("name", "x"), ("number", -7))), "do f 2 x -7"),
    (("do", "f", (ONE, ONE, ONE, ("name", "z"))), "do f 4 1 1 1 z"),
    (("give", ("number", -3)), "give -3"),
    (("tell", ("call", "f", ())), "tell call f 0"),
    (("get", "x"), "get x"),
    (("new", "p", "f"), "new p deed f"),
    (("hand", "p", ("+", ("name", "q"), ONE)), "hand p to + q 1"),
    (("await", "p", "q"), "await p and q"),
]

DEEDS = [
    (("f", (), (), ()), "deed f with own do end"),
    (("f", ("a",), (), (("give", ("name", "a")),)), "deed f with a own do give a end"),
    (("f", (), ("b",), (("get", "b"),)), "deed f with own b do get b end"),
    (("f", ("f", "b", "c", "d"), ("g", "h", "i", "j", "k", "l"), (("get", "b"), ("get", "l"))),
     "deed f with f b c d own g h i j k l do get b get l end"),
]

FACES = [
    (("a", (), ()), "face a done"),
    (("a", ("b",), ()), "face a word b done"),
    (("a", (), (("f", 0),)), "face a deed f 0 done"),
    (("a", ("a",), (("b", 1),)), "face a word a deed b 1 done"),
    (("abcdefgh", ("b", "c", "d", "e", "f", "g"),
      (("h", 0), ("i", 1), ("j", 2), ("k", 3), ("l", 4), ("abcdefgh", 4))),
     "face abcdefgh word b word c word d word e word f word g"
     " deed h 0 deed i 1 deed j 2 deed k 3 deed l 4 deed abcdefgh 4 done"),
]

UNITS = [
    (("u", (), (), (), ()), "unit u do end done"),
    (("u", (("v", "x"),), (), (), ()), "unit u take x from v do end done"),
    (("u", (), ("w",), (), ()), "unit u word w do end done"),
    (("u", (("v", "x"), ("v", "x"), ("u", "u")), ("w", "w", "x"), (("w", (), (), ()), ("w", (), (), ())), ()),
     "unit u take x from v take x from v take u from u word w word w word x"
     " deed w with own do end deed w with own do end do end done"),
    (("u", tuple([("v", name) for name in "abcdefgh"]), tuple("abcdef"),
      tuple([(name, (), (), ()) for name in "abcdef"]), ()),
     "unit u take a from v take b from v take c from v take d from v take e from v take f from v take g from v"
     " take h from v word a word b word c word d word e word f deed a with own do end deed b with own do end"
     " deed c with own do end deed d with own do end deed e with own do end deed f with own do end do end done"),
    (("all", (), (), tuple([deed for deed, text in DEEDS]), tuple([statement for statement, text in STATEMENTS])),
     "unit all " + " ".join([text for deed, text in DEEDS]) + " do "
     + " ".join([text for statement, text in STATEMENTS]) + " end done"),
    (("sums", (), (), (), tuple([("tell", expression) for expression, text in EXPRESSIONS])),
     "unit sums do " + " ".join(["tell " + text for expression, text in EXPRESSIONS]) + " end done"),
]


def unit_of(block):
    return ("u", (), (), (), block)


def unit_of_deed(deed):
    return ("u", (), (), (deed,), ())


def nested(count, inner, wrap):
    for _ in range(count):
        inner = wrap(inner)
    return inner


# Ways to lay an expression into one other, each at another place of it.
EXPRESSION_WRAPS = [
    lambda inner: ("+", inner, ONE),
    lambda inner: ("=", ONE, inner),
    lambda inner: ("call", "f", (inner,)),
    lambda inner: ("call", "f", (ONE, ("name", "x"), ONE, inner)),
]

# Ways to lay a statement into one other.
STATEMENT_WRAPS = [
    lambda inner: ("while", ONE, (inner,)),
    lambda inner: ("while", ("name", "x"), (("get", "x"), inner)),
    lambda inner: ("if", ONE, (inner,), ()),
    lambda inner: ("if", ONE, (), (("get", "x"), inner)),
]

# Ways to lay an expression into a statement.
HOLDERS = [
    lambda inner: ("let", "x", inner),
    lambda inner: ("if", inner, (), ()),
    lambda inner: ("while", inner, ()),
    lambda inner: ("do", "f", (ONE, inner)),
    lambda inner: ("give", inner),
    lambda inner: ("tell", inner),
    lambda inner: ("hand", "x", inner),
]

# Statements that hold no expression, so that they may lie in 12 others.
BARE = [("get", "x"), ("new", "x", "f"), ("await", "x", "y"), ("do", "f", ())]

# No name, no number, no expression, no block, no deed, no face and no unit.
ODD = [
    True, False, None, "", " ", "A", "1", "\t", "\n", "+", "let", [], [1], ["a"], [()], (None,), (True,),
    (1,), ("",), ("a",), (("a",),), ("number",), ("name",), ("call",), ("+",), ("let",), ([],), (["let"], "x", ONE),
    (["number"], 1), (("number",), 1), (1, 2, 3), (None, None, None), 10 ** 40, -10 ** 40, 1000000, -1000000,
    nested(40, (), lambda inner: [inner]), nested(40, "a", lambda inner: (inner,)),
    nested(40, 1, lambda inner: (inner, inner)), nested(40, 1, lambda inner: [inner, inner]),
    nested(40, ("name", "x"), lambda inner: ("+", inner, inner)),
    nested(40, ("name", "x"), lambda inner: ("call", "f", (inner, inner, inner, inner))),
    nested(40, ("get", "x"), lambda inner: ("while", ONE, (inner, inner))),
    nested(40, (), lambda inner: ("if", inner, inner, inner)),
    nested(40, (), lambda inner: ("x", inner, inner, inner)),
    nested(40, (), lambda inner: ("x", inner, inner, inner, inner)),
]


# Every place of a thing: the row of indexes that leads to it, and what stands there.
def places(thing, path=()):
    found = [(path, thing)]
    if isinstance(thing, tuple):
        for index, part in enumerate(thing):
            found.extend(places(part, path + (index,)))
    return found


# The thing with another part at a place.
def replaced(thing, path, part):
    if path == ():
        return part
    parts = list(thing)
    parts[path[0]] = replaced(thing[path[0]], path[1:], part)
    return tuple(parts)


# The kinds of all parts, so that 1 and True are told apart.
def kinds(thing):
    if isinstance(thing, (tuple, list)):
        return (type(thing).__name__, [kinds(part) for part in thing])
    return type(thing).__name__
