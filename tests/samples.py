"""What several tests need: stocks, things, expressions, programs, sayings and papers.

Each call makes new lists, so that a test may change them.
"""

import random
import re
import unittest

from stairsay.papers import shows, sided
from stairsay.programs import Program
from stairsay.stocks import Stock

LETTERS = "abcdefghijklmnopqrstuvwxyz"
NONE = ("none", ())
END = ("end", ())


def number(count):
    thing = NONE
    for k in range(count):
        thing = ("next", (thing,))
    return thing


def line(*numbers):
    thing = END
    for count in reversed(numbers):
        thing = ("put", (number(count), thing))
    return thing


def steps():
    return [("num", [("none", ()), ("next", ("num",))])]


def lines():
    return steps() + [("line", [("end", ()), ("put", ("num", "line"))])]


def trees():
    return lines() + [("tree", [("leaf", ("num",)), ("fork", ("tree", "tree")), ("bag", ("wood",))]),
                      ("wood", [("lone", ("tree", "line")), ("join", ("wood", "tree"))])]


def signs():
    return [("sign", [("yes", ()), ("no", ()), ("maybe", ()), ("never", ())])]


def pairs():
    return signs() + [("pair", [("both", ("sign", "sign"))]), ("nest", [("two", ("pair", "pair"))])]


def single():
    return [("one", [("unit", ())])]


# Kinds whose parts are of kinds that come later, and back.
def rounds():
    return [("even", [("zero", ()), ("after", ("odd",)), ("twin", ("odd", "even"))]),
            ("odd", [("over", ("even",)), ("mix", ("late", "odd"))]),
            ("late", [("base", ("odd",)), ("deep", ("late", "late")), ("plain", ())])]


# A kind's least thing is of size 7, 15: at the bound that things has, and beyond it.
def towers():
    return [("ground", [("stone", ())]), ("first", [("lift", ("ground", "ground"))]),
            ("second", [("raise", ("first", "first"))]), ("third", [("crown", ("second", "second"))])]


def wide():
    return [("many", [("tip", ()), ("red", ("many",)), ("green", ("many", "many")), ("blue", ("many",))])]


ALL_SAMPLES = (steps, lines, trees, signs, pairs, single, rounds, towers, wide)


def name_of(number):
    return "n" + LETTERS[number // 26] + LETTERS[number % 26]


def random_stock(seed):
    dice = random.Random(seed)
    kinds = ["k" + LETTERS[k] for k in range(dice.randint(1, 4))]
    stock = []
    number = 0
    for k, kind in enumerate(kinds):
        makers = []
        for m in range(dice.randint(1, 4)):
            usable = kinds[:k] if m == 0 else kinds
            count = dice.randint(0, 2) if usable else 0
            makers.append((name_of(number), tuple(dice.choice(usable) for part in range(count))))
            number += 1
        stock.append((kind, makers))
    return stock


MAKERS = [maker for sample in ALL_SAMPLES for kind, makers in sample() for maker, parts in makers]


# The expression that a text writes: "add(next(x), none())". A word is a maker where some sample has one of this name.
def ex(text, makers=MAKERS):
    words = re.findall(r"[^(), ]+|[(),]", text)

    def read_one():
        word = words.pop(0)
        if not words or words[0] != "(":
            return ("name", word)
        words.pop(0)
        arguments = []
        while words[0] != ")":
            if words[0] == ",":
                words.pop(0)
            arguments.append(read_one())
        words.pop(0)
        return ("make" if word in makers else "call", word, tuple(arguments))

    expression = read_one()
    assert words == [], text
    return expression


# A function whose names are written in one text each, and whose bodies are texts.
def fn(name, kinds, kind, others, *rows):
    return (name, tuple(kinds.split()), kind, tuple(others.split()),
            tuple((tuple(names.split()), ex(body)) for names, body in rows))


def sums():
    return [fn("add", "num num", "num", "y", ("", "y"), ("m", "next(add(m, y))")),
            fn("times", "num num", "num", "y", ("", "none()"), ("m", "add(y, times(m, y))")),
            fn("before", "num", "num", "", ("", "none()"), ("m", "m"))]


def joins():
    return sums() + [fn("glue", "line line", "line", "b", ("", "b"), ("h t", "put(h, glue(t, b))")),
                     fn("back", "line", "line", "", ("", "end()"), ("h t", "glue(back(t), put(h, end()))")),
                     fn("turn", "line line", "line", "b", ("", "b"), ("h t", "turn(t, put(h, b))")),
                     fn("length", "line", "num", "", ("", "none()"), ("h t", "next(length(t))"))]


def groves():
    return joins() + [fn("mirror", "tree", "tree", "", ("n", "leaf(n)"), ("a b", "fork(mirror(b), mirror(a))"),
                         ("w", "bag(w)")),
                      fn("flat", "tree line", "line", "b", ("n", "put(n, b)"), ("p q", "flat(p, flat(q, b))"),
                         ("w", "b")),
                      fn("choose", "num tree tree", "tree", "s t", ("", "s"), ("m", "t"))]


# Functions over the signs, which have four makers without parts.
def turns():
    return [fn("flip", "sign", "sign", "", ("", "no()"), ("", "yes()"), ("", "never()"), ("", "maybe()"))]


# An expression of a kind in which each of names (a dict to kinds) may stand and each function of heads be called; a
# call of the function own has one of lessers first.
def random_expression(dice, kinds, heads, names, kind, deep, own=None, lessers=()):
    def more(wanted):
        return random_expression(dice, kinds, heads, names, wanted, deep - 1, own, lessers)

    fitting = [("name", name) for name in names if names[name] == kind]
    if fitting and (deep <= 0 or dice.random() < 0.3):
        return dice.choice(fitting)
    callable_here = [name for name in heads if heads[name][1] == kind and (name != own or lessers)]
    if deep > 0 and callable_here and dice.random() < 0.6:
        function = dice.choice(callable_here)
        arguments = [more(wanted) for wanted in heads[function][0]]
        if function == own:
            arguments[0] = ("name", dice.choice(lessers))
        return ("call", function, tuple(arguments))
    makers = dict(kinds)[kind]
    maker, parts = dice.choice(makers) if deep > 0 else makers[0]
    return ("make", maker, tuple(more(part) for part in parts))


def random_functions(seed, kinds, count):
    dice = random.Random(seed)
    names_of_kinds = [kind for kind, makers in kinds]
    heads, functions = {}, []
    for k in range(count):
        name = "f" + LETTERS[k]
        arguments = tuple(dice.choice(names_of_kinds) for argument in range(dice.randint(1, 3)))
        kind = dice.choice(names_of_kinds)
        heads[name] = (arguments, kind)
        others = tuple("o" + LETTERS[j] for j in range(len(arguments) - 1))
        rows = []
        for maker, parts in dict(kinds)[arguments[0]]:
            names = tuple("p" + LETTERS[j] for j in range(len(parts)))
            scope = dict(zip(names + others, parts + arguments[1:]))
            lessers = [part for part in names if scope[part] == arguments[0]]
            rows.append((names, random_expression(dice, kinds, heads, scope, kind, 3, name, lessers)))
        functions.append((name, arguments, kind, others, tuple(rows)))
    return functions


def places_of(expression):
    found = [()]
    if expression[0] != "name":
        for k, argument in enumerate(expression[2]):
            found.extend((k,) + place for place in places_of(argument))
    return found


# A saying whose names are written "x num, a line".
def say(names, left, right):
    return (tuple(tuple(pair.split()) for pair in names.split(", ") if pair), ex(left), ex(right))


def step(ground, place, back, put_ins):
    return (place, ground, back, tuple((name, ex(text)) for name, text in put_ins.items()))


def row(function, maker, place=(), back=False, **put_ins):
    return step(("row", function, maker), place, back, put_ins)


def shown(k, place=(), back=False, **put_ins):
    return step(("shown", k), place, back, put_ins)


def lesser(k, place=(), back=False, **put_ins):
    return step(("lesser", k), place, back, put_ins)


# A paper of the form steps.
def trail(*all_steps):
    return ("steps", all_steps)


# Branches are written (names in one text, paper).
def climb(name, *branches):
    return ("climb", name, tuple((tuple(names.split()), paper) for names, paper in branches))


def split(name, *branches):
    return ("split",) + climb(name, *branches)[1:]


ADD_NONE = say("x num", "add(x, none())", "x")
ADD_NEXT = say("x num, y num", "add(x, next(y))", "next(add(x, y))")
ADD_TURNED = say("x num, y num", "add(x, y)", "add(y, x)")
ADD_GROUPED = say("x num, y num, z num", "add(add(x, y), z)", "add(x, add(y, z))")
GLUE_END = say("a line", "glue(a, end())", "a")
GLUE_GROUPED = say("a line, b line, c line", "glue(glue(a, b), c)", "glue(a, glue(b, c))")
LENGTH_GLUE = say("a line, b line", "length(glue(a, b))", "add(length(a), length(b))")
BACK_GLUE = say("a line, b line", "back(glue(a, b))", "glue(back(b), back(a))")
BACK_BACK = say("a line", "back(back(a))", "a")
TURN_BACK = say("a line, b line", "turn(a, b)", "glue(back(a), b)")
MIRROR_TWICE = say("t tree", "mirror(mirror(t))", "t")

ADD_NONE_PAPER = climb("x", ("", trail(row("add", "none", y="none()"))),
                       ("p", trail(row("add", "next", m="p", y="none()"), lesser(0, (0,)))))
ADD_NEXT_PAPER = climb("x", ("", trail(row("add", "none", y="next(y)"), row("add", "none", (0,), True, y="y"))),
                       ("p", trail(row("add", "next", m="p", y="next(y)"), lesser(0, (0,), y="y"),
                                   row("add", "next", (0,), True, m="p", y="y"))))
ADD_GROUPED_PAPER = climb(
    "x", ("", trail(row("add", "none", (0,), y="y"), row("add", "none", back=True, y="add(y, z)"))),
    ("p", trail(row("add", "next", (0,), m="p", y="y"), row("add", "next", m="add(p, y)", y="z"),
                lesser(0, (0,), y="y", z="z"), row("add", "next", back=True, m="p", y="add(y, z)"))))
GLUE_GROUPED_PAPER = climb(
    "a", ("", trail(row("glue", "end", (0,), b="b"), row("glue", "end", back=True, b="glue(b, c)"))),
    ("p q", trail(row("glue", "put", (0,), h="p", t="q", b="b"), row("glue", "put", h="p", t="glue(q, b)", b="c"),
                  lesser(0, (1,), b="b", c="c"), row("glue", "put", back=True, h="p", t="q", b="glue(b, c)"))))
LENGTH_GLUE_PAPER = climb(
    "a", ("", trail(row("glue", "end", (0,), b="b"), row("add", "none", back=True, y="length(b)"),
                    row("length", "end", (0,), True))),
    ("p q", trail(row("glue", "put", (0,), h="p", t="q", b="b"), row("length", "put", h="p", t="glue(q, b)"),
                  lesser(0, (0,), b="b"), row("add", "next", back=True, m="length(q)", y="length(b)"),
                  row("length", "put", (0,), True, h="p", t="q"))))
BACK_GLUE_PAPER = climb(
    "a", ("", trail(row("glue", "end", (0,), b="b"), shown(4, back=True, a="back(b)"), row("back", "end", (1,), True))),
    ("p q", trail(row("glue", "put", (0,), h="p", t="q", b="b"), row("back", "put", h="p", t="glue(q, b)"),
                  lesser(0, (0,), b="b"), shown(5, a="back(b)", b="back(q)", c="put(p, end())"),
                  row("back", "put", (1,), True, h="p", t="q"))))
BACK_BACK_PAPER = climb(
    "a", ("", trail(row("back", "end", (0,)), row("back", "end"))),
    ("p q", trail(row("back", "put", (0,), h="p", t="q"), shown(7, a="back(q)", b="put(p, end())"), lesser(0, (1,)),
                  row("back", "put", (0,), h="p", t="end()"), row("back", "end", (0, 0)),
                  row("glue", "end", (0,), b="put(p, end())"), row("glue", "put", h="p", t="end()", b="q"),
                  row("glue", "end", (1,), b="q"))))
# The lesser is used with something else put in for its open name.
TURN_BACK_PAPER = climb(
    "a", ("", trail(row("turn", "end", b="b"), row("glue", "end", back=True, b="b"), row("back", "end", (0,), True))),
    ("p q", trail(row("turn", "put", h="p", t="q", b="b"), lesser(0, b="put(p, b)"),
                  row("glue", "end", (1, 1), True, b="b"), row("glue", "put", (1,), True, h="p", t="end()", b="b"),
                  shown(5, back=True, a="back(q)", b="put(p, end())", c="b"),
                  row("back", "put", (0,), True, h="p", t="q"))))
MIRROR_LEAF = ("n", trail(row("mirror", "leaf", (0,), n="n"), row("mirror", "leaf", n="n")))
MIRROR_BAG = ("w", trail(row("mirror", "bag", (0,), w="w"), row("mirror", "bag", w="w")))
MIRROR_TWICE_PAPER = climb(
    "t", MIRROR_LEAF,
    ("p q", trail(row("mirror", "fork", (0,), a="p", b="q"), row("mirror", "fork", a="mirror(q)", b="mirror(p)"),
                  lesser(0, (0,)), lesser(1, (1,)))),
    MIRROR_BAG)

# Each saying with its paper; those ahead of it are shown before.
WELL_KNOWN = (
    (ADD_NONE, ADD_NONE_PAPER), (ADD_NEXT, ADD_NEXT_PAPER),
    (ADD_TURNED, climb("x", ("", trail(row("add", "none", y="y"), shown(0, back=True, x="y"))),
                       ("p", trail(row("add", "next", m="p", y="y"), lesser(0, (0,), y="y"),
                                   shown(1, back=True, x="y", y="p"))))),
    (ADD_GROUPED, ADD_GROUPED_PAPER),
    (GLUE_END, climb("a", ("", trail(row("glue", "end", b="end()"))),
                     ("p q", trail(row("glue", "put", h="p", t="q", b="end()"), lesser(0, (1,)))))),
    (GLUE_GROUPED, GLUE_GROUPED_PAPER), (LENGTH_GLUE, LENGTH_GLUE_PAPER), (BACK_GLUE, BACK_GLUE_PAPER),
    (BACK_BACK, BACK_BACK_PAPER), (TURN_BACK, TURN_BACK_PAPER), (MIRROR_TWICE, MIRROR_TWICE_PAPER),
)
FALSE_ONES = (
    say("x num", "add(x, next(none()))", "x"), say("x num", "next(x)", "x"), say("x num, y num", "add(x, y)", "x"),
    say("x num, y num", "x", "y"), say("a line, b line", "glue(a, b)", "glue(b, a)"), say("a line", "back(a)", "a"),
    say("t tree", "mirror(t)", "t"), say("a line, b line", "turn(a, b)", "glue(a, b)"),
    say("x num", "before(next(x))", "next(before(x))"), say("", "none()", "next(none())"),
)


class PaperTest(unittest.TestCase):
    def setUp(self):
        self.program = Program(Stock(trees()), groves())

    def answer(self, saying, paper, before):
        sided(self.program, saying)
        return shows(self.program, list(before), saying, paper)

    def good(self, saying, paper, before=()):
        with self.subTest(saying=saying, paper=paper):
            self.assertIs(self.answer(saying, paper, before), True)

    def bad(self, saying, paper, before=()):
        with self.subTest(saying=saying, paper=paper):
            self.assertIs(self.answer(saying, paper, before), False)
