import copy
import random
import re
import unittest

from samples import (ALL_SAMPLES, ex, fn, groves, joins, places_of, random_expression, random_functions, signs, trees,
                     turns)
from stairsay.errors import (BadCount, BadKind, BadName, NoFunction, NoKind, NoMaker, NoName, NotLess, SayError, Twice)
from stairsay.places import part_at, put_at
from stairsay.programs import Program, kind_of
from stairsay.stocks import Stock

ADD = fn("add", "num num", "num", "y", ("", "y"), ("m", "next(add(m, y))"))
GLUE = fn("glue", "line line", "line", "b", ("", "b"), ("h t", "put(h, glue(t, b))"))
FIELDS = ("name", "kinds", "kind", "others", "rows")


def changed(function, **parts):
    return tuple(parts.get(field, old) for field, old in zip(FIELDS, function))


# GLUE with another body in its second row, whose names are h, t and b.
def glue_body(text):
    return changed(GLUE, rows=(GLUE[4][0], (("h", "t"), ex(text))))


def glue_names(names, others, body="b"):
    return changed(GLUE, others=others, rows=(GLUE[4][0], (names, ex(body))))


# All over the stock of numbers, lines, trees and woods.
ONE_FAULT = (
    (BadName, [changed(ADD, name="")]),
    (BadName, [changed(ADD, name="Add")]),
    (BadName, [changed(ADD, name="a" * 13)]),
    (BadName, [ADD, changed(GLUE, name="glue two")]),
    (Twice, [ADD, ADD]),
    (Twice, [ADD, GLUE, fn("add", "num", "num", "", ("", "none()"), ("m", "m"))]),
    (Twice, [fn("none", "num", "num", "", ("", "none()"), ("m", "m"))]),
    (Twice, [ADD, fn("join", "num", "num", "", ("", "none()"), ("m", "m"))]),
    (BadCount, [("f", (), "num", (), ())]),
    (BadCount, [("f", ("num",) * 4, "num", ("a", "b", "c"), (((), ex("a")), (("m",), ex("a"))))]),
    (NoKind, [changed(ADD, kinds=("nowhere", "num"))]),
    (NoKind, [changed(ADD, kinds=("num", "nowhere"))]),
    (NoKind, [changed(ADD, kinds=("num", "none"))]),
    (NoKind, [changed(ADD, kinds=("num", ""))]),
    (NoKind, [changed(ADD, kind="nowhere")]),
    (NoKind, [changed(ADD, kind="add")]),
    (BadCount, [changed(ADD, others=())]),
    (BadCount, [changed(ADD, others=("y", "z"))]),
    (BadCount, [("f", ("num",), "num", ("y",), (((), ex("none()")), (("m",), ex("m"))))]),
    (BadCount, [changed(ADD, rows=())]),
    (BadCount, [changed(ADD, rows=ADD[4][:1])]),
    (BadCount, [changed(ADD, rows=ADD[4] + (((), ex("y")),))]),
    (BadCount, [changed(ADD, rows=((("m",), ex("y")), ADD[4][1]))]),
    (BadCount, [changed(ADD, rows=(ADD[4][0], ((), ex("y"))))]),
    (BadCount, [changed(ADD, rows=(ADD[4][0], (("m", "k"), ex("y"))))]),
    (BadCount, [changed(ADD, rows=(ADD[4][1], ADD[4][0]))]),
    (BadName, [glue_names(("", "t"), ("b",))]),
    (BadName, [glue_names(("h", "T"), ("b",))]),
    (BadName, [glue_names(("h", "t"), ("a" * 13,), "t")]),
    (BadName, [changed(ADD, others=("y z",), rows=(((), ex("none()")), (("m",), ex("m"))))]),
    (Twice, [glue_names(("h", "h"), ("b",))]),
    (Twice, [glue_names(("b", "t"), ("b",))]),
    (Twice, [glue_names(("h", "b"), ("b",))]),
    (Twice, [("f", ("num",) * 3, "num", ("a", "a"), (((), ex("a")), (("m",), ex("m"))))]),
    (NoName, [glue_body("x")]),
    (NoName, [glue_body("put(h, put(x, b))")]),
    (NoName, [glue_body("glue(t, x)")]),
    (NoName, [changed(ADD, rows=(((), ex("m")), ADD[4][1]))]),
    (NoName, [changed(ADD, rows=(((), ex("next(m)")), ADD[4][1]))]),
    (NoName, [changed(ADD, rows=(ADD[4][0], (("m",), ex("add"))))]),
    (NoName, [changed(ADD, rows=(ADD[4][0], (("m",), ex("none"))))]),
    (NoMaker, [changed(GLUE, rows=(((), ("make", "nought", ())), GLUE[4][1]))]),
    (NoMaker, [ADD, changed(GLUE, rows=(((), ("make", "add", ())), GLUE[4][1]))]),
    (NoMaker, [changed(ADD, rows=(((), ("make", "num", ())), ADD[4][1]))]),
    (BadCount, [glue_body("put(h)")]),
    (BadCount, [glue_body("put(h, t, b)")]),
    (BadCount, [glue_body("put(none(h), t)")]),
    (BadCount, [glue_body("put(next(), t)")]),
    (NoFunction, [glue_body("unknown(t)")]),
    (NoFunction, [glue_body("put(add(h, h), t)"), ADD]),
    (NoFunction, [changed(GLUE, rows=(((), ("call", "end", ())), GLUE[4][1]))]),
    (NoFunction, [glue_body("put(glued(t, b), b)"), changed(GLUE, name="glued")]),
    (BadCount, [glue_body("glue(t)")]),
    (BadCount, [glue_body("glue(t, b, b)")]),
    (BadCount, [glue_body("glue()")]),
    (BadCount, [ADD, glue_body("put(add(h), t)")]),
    (BadCount, [ADD, glue_body("put(add(h, h, h), t)")]),
    (NotLess, [glue_body("glue(b, t)")]),
    (NotLess, [glue_body("glue(put(h, t), b)")]),
    (NotLess, [glue_body("glue(end(), b)")]),
    (NotLess, [glue_body("glue(glue(t, b), b)")]),
    (NotLess, [glue_body("glue(h, b)")]),
    (NotLess, [glue_body("glue(x, b)")]),
    (NotLess, [glue_body("put(h, put(h, glue(b, b)))")]),
    (NotLess, [changed(ADD, rows=(((), ex("add(y, y)")), ADD[4][1]))]),
    (BadKind, [glue_body("put(t, b)")]),
    (BadKind, [glue_body("put(h, h)")]),
    (BadKind, [glue_body("put(end(), b)")]),
    (BadKind, [glue_body("glue(t, h)")]),
    (BadKind, [ADD, glue_body("put(add(h, t), b)")]),
    (BadKind, [ADD, glue_body("put(add(t, h), b)")]),
    (BadKind, [ADD, glue_body("glue(t, add(h, h))")]),
    (BadKind, [glue_body("h")]),
    (BadKind, [glue_body("none()")]),
    (BadKind, [ADD, glue_body("add(h, h)")]),
    (BadKind, [changed(ADD, kind="line")]),
    (BadKind, [changed(GLUE, rows=(((), ex("none()")), GLUE[4][1]))]),
)

TWO_FAULTS = (
    # Function after function: what is wrong at the end of the first comes ahead of the second's name.
    (BadKind, [glue_body("h"), changed(ADD, name="")]),
    (BadName, [changed(ADD, name=""), glue_body("h")]),
    # Within a function, the order told.
    (BadName, [ADD, changed(ADD, name="Add", kinds=())]),
    (Twice, [ADD, changed(ADD, kinds=())]),
    (BadCount, [("f", ("nowhere",) * 4, "nowhere", (), ())]),
    (BadCount, [("f", (), "nowhere", ("a",), ())]),
    (NoKind, [changed(ADD, kinds=("num", "nowhere"), others=())]),
    (NoKind, [changed(ADD, kind="nowhere", others=())]),
    (NoKind, [changed(ADD, kind="nowhere", rows=())]),
    (BadCount, [changed(ADD, others=("", ""))]),
    (BadCount, [changed(ADD, others=(), rows=(((), ex("x")), (("m",), ex("m"))))]),
    (BadCount, [changed(ADD, rows=(((), ex("x")),))]),
    (BadCount, [changed(ADD, others=("",), rows=(((), ex("x")),))]),
    # Row after row.
    (BadKind, [changed(ADD, rows=(((), ex("end()")), ((), ex("y"))))]),
    (NoName, [changed(ADD, rows=(((), ex("x")), (("M",), ex("y"))))]),
    (BadName, [changed(ADD, others=("Y",), rows=(((), ex("x")), ((), ex("y"))))]),
    # Within a row: how many names, then name after name, then the body.
    (BadCount, [glue_names(("H",), ("b",))]),
    (BadCount, [glue_names(("h", "h", "h"), ("b",))]),
    (BadName, [glue_names(("b", "T"), ("b",), "x")]),
    (BadName, [glue_names(("h", "T"), ("b",), "x")]),
    (Twice, [glue_names(("h", "h"), ("b",), "x")]),
    (Twice, [("f", ("tree", "num", "num"), "num", ("a", "B"), ((("a",), ex("a")),) * 3)]),
    (BadName, [("f", ("tree", "num", "num"), "num", ("a", "a"), ((("",), ex("a")),) * 3)]),
    (BadName, [("f", ("num",) * 3, "num", ("A", "A"), (((), ex("x")), (("m",), ex("m"))))]),
    (Twice, [("f", ("num",) * 3, "num", ("a", "a"), (((), ex("x")), (("m",), ex("m"))))]),
    # Bodies from the outside inwards.
    (NoMaker, [changed(ADD, rows=(((), ("make", "nought", (ex("x"),))), ADD[4][1]))]),
    (BadCount, [glue_body("put(x)")]),
    (BadCount, [glue_body("put(x, x, x)")]),
    (NoFunction, [glue_body("unknown(x)")]),
    (BadCount, [glue_body("glue(x)")]),
    (BadCount, [glue_body("glue(b)")]),
    (NotLess, [glue_body("glue(b, x)")]),
    (NotLess, [glue_body("glue(x, x)")]),
    (NotLess, [glue_body("glue(put(x), unknown())")]),
    (BadCount, [glue_body("next(put(h), b)")]),
    (BadCount, [glue_body("put(h)")]),
    (NoName, [glue_body("next(x)")]),
    # Arguments one after the other, each one whole, and the kind behind each.
    (NoName, [glue_body("put(x, put(h))")]),
    (BadKind, [glue_body("put(t, x)")]),
    (BadKind, [glue_body("put(t, put(h))")]),
    (NoName, [glue_body("put(next(next(x)), unknown())")]),
    (NoFunction, [glue_body("put(unknown(), x)")]),
    (BadCount, [glue_body("put(put(h), x)")]),
    (NotLess, [glue_body("put(glue(b, b), x)")]),
    (BadKind, [glue_body("put(put(h, t), x)")]),
    (BadKind, [glue_body("glue(t, next(t))")]),
    (NoName, [ADD, glue_body("put(add(h, next(x)), h)")]),
    (BadKind, [ADD, glue_body("put(add(h, t), x)")]),
    # The kind of the whole comes behind all that stands in it.
    (NoName, [glue_body("next(next(x))")]),
    (NotLess, [fn("glue", "line line", "num", "b", ("", "none()"), ("h t", "put(glue(b, b), t)"))]),
    (NoFunction, [glue_body("next(unknown(h))")]),
)


def all_makers(kinds):
    return {maker: (parts, kind) for kind, makers in kinds for maker, parts in makers}


# All refusals that point 10 tells, in its order; only the first is asked for.
def refusals(kinds, functions):
    makers_of, makers, heads = dict(kinds), all_makers(kinds), {}
    for name, arguments, kind, others, rows in functions:
        if not re.fullmatch("[a-z]{1,12}", name):
            yield BadName
        if name in list(heads) + list(makers):
            yield Twice
        if len(arguments) not in (1, 2, 3):
            yield BadCount
        yield from (NoKind for each in arguments + (kind,) if each not in makers_of)
        if len(others) + 1 != len(arguments):
            yield BadCount
        if len(rows) != len(makers_of[arguments[0]]):
            yield BadCount
        heads[name] = (arguments, kind)
        for (maker, parts), (names, body) in zip(makers_of[arguments[0]], rows):
            if len(names) != len(parts):
                yield BadCount
            for k, each in enumerate(names + others):
                if not re.fullmatch("[a-z]{1,12}", each):
                    yield BadName
                if each in (names + others)[:k]:
                    yield Twice
            scope = dict(zip(names + others, parts + arguments[1:]))
            lessers = [each for each in names if scope[each] == arguments[0]]
            yield from body_refusals(body, makers, heads, scope, name, lessers)
            if kind_at_sight(body, makers, heads, scope) != kind:
                yield BadKind


def body_refusals(body, makers, heads, scope, own=None, lessers=()):
    if body[0] == "name":
        if body[1] not in scope:
            yield NoName
        return
    known, refusal = (makers, NoMaker) if body[0] == "make" else (heads, NoFunction)
    if body[1] not in known:
        yield refusal
    wanted = known[body[1]][0]
    if len(wanted) != len(body[2]):
        yield BadCount
    if body[0] == "call" and body[1] == own:
        if not (body[2][0][0] == "name" and body[2][0][1] in lessers):
            yield NotLess
    for kind, argument in zip(wanted, body[2]):
        yield from body_refusals(argument, makers, heads, scope, own, lessers)
        if kind_at_sight(argument, makers, heads, scope) != kind:
            yield BadKind


def kind_at_sight(body, makers, heads, scope):
    if body[0] == "name":
        return scope[body[1]]
    return (makers if body[0] == "make" else heads)[body[1]][1]


def first_refusal(refused):
    return next(refused, None)


def refusal_of(call, *arguments):
    try:
        call(*arguments)
    except SayError as refusal:
        return refusal.__class__
    return None


def other_names(dice, names):
    ways = [names[:-1], names + ("extra",), names[:-1] + ("Bad",), names[:-1] + ("pa",), names[:-1] + ("oa",),
            tuple(reversed(names)), ("",) + names[1:]]
    return dice.choice(ways)


def other_body(dice, body, function, kinds):
    place = dice.choice(places_of(body))
    part = part_at(body, place)
    words = [maker for maker in all_makers(kinds)] + ["fa", "fb", "fc", "nought", function]
    ways = [("name", "pa"), ("name", "pb"), ("name", "oa"), ("name", "x"), ("make", dice.choice(words), ()),
            ("call", function, (part,)), ("call", function, (("name", "pa"),)),
            ("call", function, (("name", "oa"), part)), ("call", function, (("name", "pb"), part)),
            ("call", dice.choice(words), (part,)),
            ("make", dice.choice(words), (part, part))]
    if part[0] != "name":
        ways.extend([(part[0], part[1], part[2][:-1]), (part[0], part[1], part[2] + (("name", "pa"),)),
                     (part[0], dice.choice(words), part[2]), (part[0], part[1], tuple(reversed(part[2]))),
                     ("call" if part[0] == "make" else "make", part[1], part[2])])
    return put_at(body, place, dice.choice(ways))


def with_fault(dice, functions, kinds):
    k = dice.randrange(len(functions))
    name, arguments, kind, others, rows = function = functions[k]
    texts = [each for each, makers in kinds] + ["nowhere"]
    way = dice.randrange(11)
    if way == 0:
        function = changed(function, name=dice.choice(["", "Bad", "fa", "fb", kinds[0][1][0][0], "fine"]))
    elif way == 1:
        function = changed(function, kinds=dice.choice([(), arguments[:-1], arguments + (texts[0],), arguments * 2,
                                                        (dice.choice(texts),) + arguments[1:],
                                                        arguments[:-1] + (dice.choice(texts),)]))
    elif way == 2:
        function = changed(function, kind=dice.choice(texts))
    elif way == 3:
        function = changed(function, others=other_names(dice, others))
    elif way == 4:
        function = changed(function, rows=dice.choice([rows[:-1], rows + rows[:1], tuple(reversed(rows)), ()]))
    elif rows:
        j = dice.randrange(len(rows))
        names, body = rows[j]
        row = (other_names(dice, names), body) if way < 7 else (names, other_body(dice, body, name, kinds))
        function = changed(function, rows=rows[:j] + (row,) + rows[j + 1:])
    return functions[:k] + [function] + functions[k + 1:]


class TestRefusals(unittest.TestCase):
    def setUp(self):
        self.stock = Stock(trees())

    def check(self, table):
        for refusal, functions in table:
            with self.subTest(functions=functions):
                self.assertIs(refusal_of(Program, self.stock, functions), refusal)

    def test_one_fault(self):
        self.check(ONE_FAULT)

    def test_two_faults(self):
        self.check(TWO_FAULTS)

    def test_a_function_behind_others_is_looked_at_too(self):
        self.check([(refusal, [fn("zero", "num", "num", "", ("", "none()"), ("m", "m"))] + functions)
                    for refusal, functions in ONE_FAULT])

    def test_each_other_function_alone_is_good(self):
        for functions in ([ADD], [GLUE], [ADD, GLUE], [GLUE, ADD], joins(), groves()):
            self.assertEqual(Program(self.stock, functions).functions(), [function[0] for function in functions])

    def test_names_may_be_those_of_functions_makers_and_kinds(self):
        names = fn("num", "num num", "num", "none", ("", "none"), ("num", "num(num, next(none))"))
        self.assertEqual(Program(self.stock, [ADD, names]).functions(), ["add", "num"])
        self.assertEqual(Program(self.stock, [changed(ADD, others=("add",), rows=(
            ((), ex("add")), (("next",), ex("add(next, add)"))))]).functions(), ["add"])

    def test_calls_within_and_for_two_parts(self):
        for body in ("glue(t, glue(t, b))", "glue(t, put(h, glue(t, t)))", "put(h, glue(t, end()))", "glue(t, t)"):
            Program(self.stock, [glue_body(body)])
        for names, body in (("p q", "flat(p, flat(q, b))"), ("p q", "flat(q, flat(p, flat(p, b)))")):
            Program(self.stock, [fn("flat", "tree line", "line", "b", ("n", "put(n, b)"), (names, body), ("w", "b"))])
        with self.assertRaises(NotLess):
            Program(self.stock, [fn("flat", "tree line", "line", "b", ("n", "b"), ("p q", "b"), ("w", "flat(w, b)"))])

    def test_three_arguments_and_no_row_names(self):
        flip = Program(Stock(signs()), turns())
        self.assertEqual(flip.row("flip", "maybe"), ((), ex("never()")))
        choose = fn("choose", "sign sign sign", "sign", "a b", ("", "a"), ("", "b"), ("", "a"), ("", "b"))
        self.assertEqual(Program(Stock(signs()), [choose]).kinds_of("choose"), (("sign",) * 3, "sign"))

    def test_more_than_twelve_functions_are_not_refused(self):
        functions = [changed(ADD, name="add" + letter, rows=(((), ex("y")), (("m",), ex("next(m)"))))
                     for letter in "abcdefghijklmno"]
        self.assertEqual(len(Program(self.stock, functions).functions()), 15)

    def test_random_programs_are_good(self):
        for seed in range(60):
            kinds = ALL_SAMPLES[seed % len(ALL_SAMPLES)]()
            functions = random_functions(seed, kinds, 6)
            self.assertIsNone(first_refusal(refusals(kinds, functions)))
            self.assertEqual(Program(Stock(kinds), functions).functions(), [function[0] for function in functions])

    def test_random_faults(self):
        dice = random.Random(10)
        seen = {}
        for seed in range(3000):
            kinds = ALL_SAMPLES[seed % len(ALL_SAMPLES)]()
            functions = random_functions(seed, kinds, 3)
            for k in range(dice.randint(1, 3)):
                functions = with_fault(dice, functions, kinds)
            refusal = first_refusal(refusals(kinds, functions))
            seen[refusal] = seen.get(refusal, 0) + 1
            with self.subTest(functions=functions):
                self.assertIs(refusal_of(Program, Stock(kinds), functions), refusal)
        for refusal in (None, BadName, Twice, BadCount, NoKind, NoName, NoMaker, NoFunction, NotLess, BadKind):
            self.assertGreater(seen.get(refusal, 0), 20, refusal)


class TestProgram(unittest.TestCase):
    def setUp(self):
        self.stock = Stock(trees())
        self.program = Program(self.stock, groves())

    def test_stock(self):
        self.assertIs(self.program.stock, self.stock)

    def test_no_functions(self):
        program = Program(self.stock, [])
        self.assertEqual(program.functions(), [])
        with self.assertRaises(NoFunction):
            program.kinds_of("add")
        with self.assertRaises(NoFunction):
            program.row("add", "none")
        self.assertEqual(kind_of(program, {"x": "num"}, ex("next(x)")), "num")

    def test_functions(self):
        names = ["add", "times", "before", "glue", "back", "turn", "length", "mirror", "flat", "choose"]
        self.assertEqual(self.program.functions(), names)
        self.assertIs(self.program.functions().__class__, list)

    def test_kinds_of(self):
        self.assertEqual(self.program.kinds_of("add"), (("num", "num"), "num"))
        self.assertEqual(self.program.kinds_of("length"), (("line",), "num"))
        self.assertEqual(self.program.kinds_of("choose"), (("num", "tree", "tree"), "tree"))

    def test_row(self):
        self.assertEqual(self.program.row("add", "none"), (("y",), ex("y")))
        self.assertEqual(self.program.row("add", "next"), (("m", "y"), ex("next(add(m, y))")))
        self.assertEqual(self.program.row("glue", "put"), (("h", "t", "b"), ex("put(h, glue(t, b))")))
        self.assertEqual(self.program.row("length", "end"), ((), ex("none()")))
        self.assertEqual(self.program.row("choose", "next"), (("m", "s", "t"), ex("t")))
        self.assertEqual(self.program.row("flat", "bag"), (("w", "b"), ex("b")))

    def test_no_function(self):
        for function in ("", "Add", "nowhere", "none", "num", "y", "adds"):
            with self.subTest(function):
                self.assertIs(refusal_of(self.program.kinds_of, function), NoFunction)
                for maker in ("none", "nought", ""):
                    self.assertIs(refusal_of(self.program.row, function, maker), NoFunction)

    def test_no_maker(self):
        for function, maker in (("add", "nought"), ("add", ""), ("add", "end"), ("add", "put"), ("add", "num"),
                                ("glue", "none"), ("glue", "next"), ("mirror", "lone"), ("length", "leaf")):
            with self.subTest(function=function, maker=maker):
                self.assertIs(refusal_of(self.program.row, function, maker), NoMaker)

    def told(self, program):
        heads = [(function, program.kinds_of(function)) for function in program.functions()]
        rows = [program.row(function, maker) for function, (kinds, kind) in heads
                for maker in program.stock.makers(kinds[0])]
        return heads, rows

    def test_what_was_handed_in_is_not_changed_and_may_be_changed(self):
        functions, kinds = groves(), trees()
        program = Program(Stock(kinds), functions)
        self.assertEqual((functions, kinds), (groves(), trees()))
        wanted = copy.deepcopy(self.told(program))
        functions.reverse()
        functions[0] = ADD
        del functions[3:]
        kinds.clear()
        self.assertEqual(self.told(program), wanted)
        self.assertEqual(self.told(program), self.told(self.program))

    def test_what_was_told_may_be_changed(self):
        wanted = copy.deepcopy(self.told(self.program))
        told = self.program.functions()
        told.reverse()
        self.program.functions().clear()
        self.assertEqual(self.told(self.program), wanted)
        self.assertEqual(told[0], "choose")

    def test_programs_beside_one_another_keep_their_own(self):
        other = Program(self.stock, [changed(ADD, rows=(((), ex("none()")), (("k",), ex("k"))))])
        self.assertEqual(self.program.row("add", "next"), (("m", "y"), ex("next(add(m, y))")))
        self.assertEqual(other.row("add", "next"), (("k", "y"), ex("k")))
        self.assertEqual(other.functions(), ["add"])

    def test_a_refused_program_leaves_what_was_handed_in(self):
        functions = [ADD, glue_body("h")]
        with self.assertRaises(BadKind):
            Program(self.stock, functions)
        self.assertEqual(functions, [ADD, glue_body("h")])
        self.assertEqual(self.stock.kinds(), ["num", "line", "tree", "wood"])


class TestKindOf(unittest.TestCase):
    def setUp(self):
        self.program = Program(Stock(trees()), groves())
        self.names = {"x": "num", "y": "num", "a": "line", "b": "line", "t": "tree", "w": "wood"}

    def test_kinds(self):
        for text, kind in (("x", "num"), ("a", "line"), ("w", "wood"), ("none()", "num"), ("put(x, a)", "line"),
                           ("add(x, y)", "num"), ("length(glue(a, back(b)))", "num"), ("bag(lone(t, a))", "tree"),
                           ("choose(length(a), mirror(t), leaf(x))", "tree"), ("join(w, t)", "wood"),
                           ("flat(fork(t, t), put(times(x, x), end()))", "line")):
            with self.subTest(text):
                self.assertEqual(kind_of(self.program, self.names, ex(text)), kind)

    def test_a_call_may_begin_with_anything(self):
        for text in ("glue(b, a)", "glue(glue(a, b), put(x, end()))", "glue(put(x, a), b)", "glue(end(), a)"):
            self.assertEqual(kind_of(self.program, self.names, ex(text)), "line")

    def test_one_refusal(self):
        for refusal, text in ((NoName, "z"), (NoName, "next(z)"), (NoName, "glue(a, put(x, z))"), (NoName, ""),
                              (NoName, "add"), (NoName, "num"), (BadCount, "next()"), (BadCount, "none(x)"),
                              (BadCount, "put(x, a, a)"), (NoFunction, "unknown(x)"), (NoFunction, "num(x)"),
                              (BadCount, "add(x)"), (BadCount, "back()"), (BadCount, "back(a, a)"),
                              (BadKind, "next(a)"), (BadKind, "put(a, x)"), (BadKind, "add(x, a)"),
                              (BadKind, "add(a, x)"), (BadKind, "length(length(a))"), (BadKind, "leaf(t)")):
            with self.subTest(text):
                expression = ex(text) if text else ("name", "")
                self.assertIs(refusal_of(kind_of, self.program, self.names, expression), refusal)
        for maker in ("nought", "", "add", "num", "x"):
            self.assertIs(refusal_of(kind_of, self.program, self.names, ("make", maker, ())), NoMaker)
        for function in ("none", ""):
            self.assertIs(refusal_of(kind_of, self.program, self.names, ("call", function, ())), NoFunction)

    def test_from_the_outside_inwards(self):
        for refusal, text in ((BadCount, "put(z)"), (NoFunction, "unknown(z)"), (BadCount, "add(z)"),
                              (NoName, "put(z, next())"), (BadKind, "put(a, z)"), (BadKind, "put(next(x), y)"),
                              (BadKind, "add(x, put(a, z))"), (NoName, "add(next(z), a)"), (BadKind, "add(a, next())"),
                              (BadCount, "add(next(), a)"), (NoFunction, "put(unknown(), z)")):
            with self.subTest(text):
                self.assertIs(refusal_of(kind_of, self.program, self.names, ex(text)), refusal)
        self.assertIs(refusal_of(kind_of, self.program, self.names, ("make", "nought", (ex("z"),))), NoMaker)

    def test_the_names_are_those_of_the_dict(self):
        self.assertEqual(kind_of(self.program, {}, ex("add(none(), none())")), "num")
        self.assertIs(refusal_of(kind_of, self.program, {}, ex("add(none(), x)")), NoName)
        self.assertEqual(kind_of(self.program, {"x": "line"}, ex("x")), "line")
        # The names of the functions' rows are none of these.
        self.assertIs(refusal_of(kind_of, self.program, {"x": "num"}, ex("add(x, m)")), NoName)

    def test_nothing_is_changed(self):
        names = dict(self.names)
        kind_of(self.program, names, ex("put(x, a)"))
        refusal_of(kind_of, self.program, names, ex("put(a, z)"))
        self.assertEqual(names, self.names)
        self.assertEqual(self.program.row("add", "next"), (("m", "y"), ex("next(add(m, y))")))

    def test_random_expressions(self):
        dice = random.Random(12)
        kinds = trees()
        heads = {function: self.program.kinds_of(function) for function in self.program.functions()}
        seen = {}
        for k in range(3000):
            kind = dice.choice(("num", "line", "tree", "wood"))
            names = {"pa": "num", "pb": "line", "oa": dice.choice(("tree", "wood"))}
            expression = random_expression(dice, kinds, heads, names, kind, 4)
            self.assertEqual(kind_of(self.program, names, expression), kind)
            for fault in range(dice.randint(1, 2)):
                expression = other_body(dice, expression, "add", kinds)
            refusal = first_refusal(body_refusals(expression, all_makers(kinds), heads, names))
            seen[refusal] = seen.get(refusal, 0) + 1
            with self.subTest(expression=expression):
                self.assertIs(refusal_of(kind_of, self.program, names, expression), refusal)
        for refusal in (None, NoName, NoMaker, NoFunction, BadCount, BadKind):
            self.assertGreater(seen.get(refusal, 0), 20, refusal)


if __name__ == "__main__":
    unittest.main()
