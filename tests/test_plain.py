"""Point 21: plain."""

import copy
import random
import unittest

from samples import ex, fn, groves, places_of, random_expression, random_functions, random_stock, trees
from stairsay.finder import plain
from stairsay.papers import shows
from stairsay.programs import Program, kind_of
from stairsay.stocks import Stock

SWELL = fn("swell", "num tree", "tree", "t", ("", "t"), ("m", "swell(m, fork(t, t))"))
DOUBLE = fn("double", "num", "num", "", ("", "none()"), ("m", "next(next(double(m)))"))
FIRST = fn("first", "tree tree", "tree", "t", ("n", "leaf(n)"), ("a b", "fork(a, b)"), ("w", "bag(w)"))
FUNCTIONS = groves() + [SWELL, DOUBLE, FIRST]
PROGRAM = Program(Stock(trees()), FUNCTIONS)


def put_in(expression, put_ins):
    if expression[0] == "name":
        return put_ins.get(expression[1], expression)
    return expression[:2] + (tuple(put_in(argument, put_ins) for argument in expression[2]),)


def at(expression, place):
    for number in place:
        expression = expression[2][number]
    return expression


def put(expression, place, other):
    if place == ():
        return other
    arguments = list(expression[2])
    arguments[place[0]] = put(arguments[place[0]], place[1:], other)
    return expression[:2] + (tuple(arguments),)


def tuples_in(expression):
    return 1 + (0 if expression[0] == "name" else sum(tuples_in(argument) for argument in expression[2]))


def deep(expression):
    return 1 + (0 if expression[0] == "name" else max([deep(argument) for argument in expression[2]], default=0))


def too_great(expression):
    return tuples_in(expression) > 200 or deep(expression) > 12


# What turning the call at a place makes, as point 21 says, with its ground and put-ins; None where it can't be turned.
def turned(kinds, functions, expression, place):
    call = at(expression, place)
    if call[0] != "call" or call[2][0][0] != "make":
        return None
    name, arguments, kind, others, rows = next(function for function in functions if function[0] == call[1])
    makers = [maker for maker, parts in dict(kinds)[arguments[0]]]
    names, body = rows[makers.index(call[2][0][1])]
    put_ins = dict(zip(names + others, call[2][0][2] + call[2][1:]))
    return put(expression, place, put_in(body, put_ins)), ("row", name, call[2][0][1]), put_ins


def all_turns(kinds, functions, expression):
    told = [turned(kinds, functions, expression, place) for place in places_of(expression)]
    return [each[0] for each in told if each is not None]


def number_text(count, inner="none()"):
    return "next(" * count + inner + ")" * count


# A tree of as many forks as it needs to have so many leaves, each written by the text.
def grove(texts):
    if len(texts) == 1:
        return texts[0]
    half = len(texts) // 2
    return "fork(" + grove(texts[:half]) + ", " + grove(texts[half:]) + ")"


class TestPlain(unittest.TestCase):
    # Whether all that point 21 says of plain is so; what it told.
    def check(self, expression, kinds=None, functions=FUNCTIONS, program=PROGRAM):
        kinds = trees() if kinds is None else kinds
        told = plain(program, expression)
        with self.subTest(expression=expression, told=told):
            self.assertIsInstance(told, tuple)
            other, steps = told
            self.assertIsInstance(steps, tuple)
            self.assertLessEqual(len(steps), 40)
            reached = expression
            for place, ground, back, put_ins in steps:
                self.assertIn(place, places_of(reached))
                made = turned(kinds, functions, reached, place)
                self.assertIsNotNone(made)
                self.assertEqual((ground, back), (made[1], False))
                self.assertIsInstance(put_ins, tuple)
                self.assertEqual(sorted(put_ins), sorted(made[2].items()))
                reached = made[0]
                self.assertFalse(too_great(reached))
            self.assertEqual(other, reached)
            if len(steps) < 40:
                self.assertTrue(all(too_great(made) for made in all_turns(kinds, functions, other)))
        return told

    def comes_to(self, text, wanted, count=None):
        other, steps = self.check(ex(text))
        self.assertEqual(other, ex(wanted))
        if count is not None:
            self.assertEqual(len(steps), count)

    def test_without_calls(self):
        for text in ("x", "none()", "next(x)", "put(x, end())", "fork(leaf(x), fork(s, t))", number_text(11)):
            self.comes_to(text, text, 0)

    def test_calls_of_made_things(self):
        self.comes_to("before(next(x))", "x", 1)
        self.comes_to("before(none())", "none()", 1)
        self.comes_to("add(next(x), y)", "next(add(x, y))", 1)
        self.comes_to("add(next(next(none())), y)", "next(next(y))", 3)
        self.comes_to("times(next(next(none())), next(none()))", "next(next(none()))", 7)
        self.comes_to("back(put(x, put(y, end())))", "put(y, put(x, end()))")
        self.comes_to("mirror(fork(leaf(x), fork(s, leaf(y))))", "fork(fork(leaf(y), mirror(s)), leaf(x))", 4)
        self.comes_to("choose(next(x), s, t)", "t", 1)
        self.comes_to("mirror(bag(w))", "bag(w)", 1)

    def test_the_step_of_a_turn(self):
        self.assertEqual(plain(PROGRAM, ex("before(next(x))")),
                         (("name", "x"), (((), ("row", "before", "next"), False, (("m", ("name", "x")),)),)))
        self.assertEqual(plain(PROGRAM, ex("next(before(none()))")),
                         (ex("next(none())"), (((0,), ("row", "before", "none"), False, ()),)))

    def test_calls_within_calls_and_within_arguments(self):
        self.comes_to("before(before(next(next(x))))", "x", 2)
        self.comes_to("next(add(none(), x))", "next(x)", 1)
        self.comes_to("put(before(next(x)), glue(end(), a))", "put(x, a)", 2)
        self.comes_to("add(x, add(none(), y))", "add(x, y)", 1)
        self.comes_to("add(add(none(), x), add(next(y), z))", "add(x, next(add(y, z)))", 2)
        self.comes_to("add(before(next(none())), y)", "y", 2)
        self.comes_to("length(glue(put(x, end()), a))", "next(length(a))")
        self.comes_to("add(add(next(x), y), z)", "next(add(add(x, y), z))", 2)

    def test_calls_of_a_name_or_of_another_call(self):
        for text in ("add(x, y)", "add(x, none())", "add(x, next(y))", "add(add(x, y), none())", "before(before(x))",
                     "length(back(a))", "mirror(mirror(t))", "choose(x, leaf(y), t)", "fork(mirror(s), t)"):
            self.comes_to(text, text, 0)
        # The further arguments' makers are no matter.
        self.comes_to("glue(a, put(x, end()))", "glue(a, put(x, end()))", 0)

    def test_names_that_are_a_rows_own(self):
        self.comes_to("add(next(y), m)", "next(add(y, m))", 1)
        self.comes_to("glue(put(t, b), put(b, h))", "put(t, glue(b, put(b, h)))", 1)
        self.comes_to("turn(put(b, h), put(h, b))", "turn(h, put(b, put(h, b)))", 1)
        self.comes_to("flat(fork(q, p), b)", "flat(q, flat(p, b))", 1)
        self.comes_to("times(next(y), m)", "add(m, times(y, m))", 1)

    def test_steps_are_good_by_shows(self):
        for names, text in ((("y", "m"), "times(next(y), add(next(m), y))"), (("m", "y"), "add(add(next(y), m), y)"),
                            ((), "times(next(next(next(none()))), next(next(none())))")):
            other, steps = plain(PROGRAM, ex(text))
            self.assertGreater(len(steps), 1)
            saying = (tuple((name, "num") for name in names), ex(text), other)
            self.assertIs(shows(PROGRAM, [], saying, ("steps", steps)), True)
            self.assertIs(shows(PROGRAM, [], saying, ("steps", steps[:-1])), False)

    def test_forty_turns_and_more(self):
        four = "leaf(add(next(next(next(none()))), x))"
        one = "mirror(bag(w))"
        done = "leaf(next(next(next(x))))"
        self.comes_to(grove([four] * 9 + [one] * 3), grove([done] * 9 + ["bag(w)"] * 3), 39)
        self.comes_to(grove([four] * 10), grove([done] * 10), 40)
        self.comes_to(grove([one] * 40), grove(["bag(w)"] * 40), 40)
        for texts in ([four] * 10 + [one], [four] * 11, [one] * 41, [four] * 16):
            other, steps = self.check(ex(grove(texts)))
            self.assertEqual(len(steps), 40)
            self.assertNotEqual(all_turns(trees(), FUNCTIONS, other), [])

    def test_two_hundred_tuples(self):
        # first(leaf(n), t) is leaf(n): the expression that comes of it has just the tuples that stand around.
        def around(count, call):
            return grove(["leaf(x)"] * count + [call])

        for count, turns in ((66, 1), (67, 0)):
            expression = ex(around(count, "first(leaf(x), " + grove(["s"] * 50) + ")"))
            made = ex(around(count, "leaf(x)"))
            self.assertEqual(tuples_in(made), 3 * count + 2)
            self.assertGreater(tuples_in(expression), 200)
            other, steps = self.check(expression)
            self.assertEqual(len(steps), turns)
            self.assertEqual(other, made if turns else expression)

    def test_two_hundred_tuples_by_one(self):
        for extra, turns in ((0, 1), (1, 0)):
            inner = "leaf(x)" if extra == 0 else "leaf(next(x))"
            expression = ex(grove(["leaf(x)"] * 66 + ["first(" + inner + ", t)"]))
            made = ex(grove(["leaf(x)"] * 66 + [inner]))
            self.assertEqual(tuples_in(made), 200 + extra)
            self.assertEqual(len(self.check(expression)[1]), turns)

    def test_twelve_deep_by_one(self):
        # Of one maker come two, so that each turn makes it deeper by one.
        for count, turns in ((8, 1), (9, 0)):
            expression = ex("double(next(" + number_text(count, "x") + "))")
            made = ex("next(next(double(" + number_text(count, "x") + ")))")
            self.assertEqual(deep(made), count + 4)
            other, steps = self.check(expression)
            self.assertEqual(len(steps), turns)
            self.assertEqual(other, made if turns else expression)

    def test_some_turns_would_make_something_too_great(self):
        for count in (3, 5, 6, 7, 9):
            for text in ("swell(" + number_text(count) + ", leaf(x))", "swell(" + number_text(count, "y") + ", leaf(x))"):
                self.check(ex(text))
                # What can be turned beside it is turned all the same, on whichever side it stands.
                for beside in ("fork(" + text + ", leaf(before(next(y))))", "fork(leaf(before(next(y))), " + text + ")",
                               "first(fork(leaf(y), " + text + "), s)", "fork(" + text + ", first(leaf(y), s))"):
                    other, steps = self.check(ex(beside))
                    self.assertNotIn("before", repr(other))
                    self.assertNotIn("first", repr(other))
        other, steps = self.check(ex("swell(" + number_text(7) + ", leaf(x))"))
        self.assertEqual(len(steps), 6)

    def test_each_turn_would_be_too_deep(self):
        for count in (3, 5, 6, 7, 8, 9, 10):
            self.check(ex("double(" + number_text(count, "x") + ")"))
            self.check(ex("put(double(" + number_text(count, "x") + "), glue(end(), put(before(next(y)), end())))"))
        text = "double(" + number_text(10, "x") + ")"
        self.comes_to(text, text, 0)
        self.comes_to("double(" + number_text(5, "x") + ")", number_text(10, "double(x)"), 5)
        other, steps = self.check(ex("double(" + number_text(7, "x") + ")"))
        self.assertEqual(len(steps), 3)

    def test_great_expressions(self):
        # Five hundred tuples, none of whose turns makes something small enough.
        great = grove(["leaf(before(next(x)))"] * 99)
        self.assertGreater(tuples_in(ex(great)), 490)
        self.comes_to(great, great, 0)
        # Both turns together would make it small enough, neither does by itself.
        half = grove(["s"] * 60)
        both = "fork(choose(none(), " + half + ", " + half + "), choose(none(), leaf(x), " + half + "))"
        self.assertEqual(too_great(ex(both)), True)
        self.comes_to(both, both, 0)
        # One turn does, the others can follow.
        chosen = "fork(choose(none(), leaf(before(next(x))), " + grove(["s"] * 120) + "), leaf(before(next(y))))"
        self.comes_to(chosen, "fork(leaf(x), leaf(y))", 3)

    def test_drawn_at_random(self):
        dice = random.Random(21)
        full, left, finished = 0, 0, 0
        for seed in range(150):
            kinds = random_stock(seed)
            functions = random_functions(seed, kinds, 5)
            program = Program(Stock(kinds), functions)
            heads = {function: program.kinds_of(function) for function in program.functions()}
            for k in range(8):
                names = {name: dice.choice(kinds)[0] for name in ("pa", "oa", "x")}
                expression = random_expression(dice, kinds, heads, names, dice.choice(kinds)[0], dice.randint(2, 8))
                if tuples_in(expression) > 500 or deep(expression) > 12:
                    continue
                other, steps = self.check(expression, kinds, functions, program)
                self.assertEqual(kind_of(program, names, other), kind_of(program, names, expression))
                self.assertIs(shows(program, [], (tuple(names.items()), expression, other), ("steps", steps)), True)
                full += len(steps) == 40
                left += len(steps) < 40 and all_turns(kinds, functions, other) != []
                finished += len(steps) > 3 and all_turns(kinds, functions, other) == []
        self.assertGreater(min(full, left, finished), 10)

    def test_what_has_no_row_is_left_as_it_is(self):
        for expression in (ex("unknown(none())"), ex("add(end(), x)"), ex("add(next(x))"), ex("add(next(x, y), z)"),
                           ex("add()"), ex("add(none(), x, y)"), ("call", "add", (("make", "unknown", ()), ("name", "x"))),
                           ("call", "before", (("name", "none"),))):
            self.assertEqual(plain(PROGRAM, expression), (expression, ()))

    def test_what_is_plain_stays_as_it_is(self):
        for text in ("add(next(x), y)", "times(next(next(x)), y)", "back(put(x, put(y, a)))"):
            other, steps = plain(PROGRAM, ex(text))
            self.assertEqual(plain(PROGRAM, other), (other, ()))

    def test_nothing_that_is_handed_in_is_changed(self):
        expression = ex("times(next(next(none())), add(next(x), y))")
        kept = copy.deepcopy(expression)
        first = plain(PROGRAM, expression)
        self.assertEqual(expression, kept)
        self.assertEqual(plain(PROGRAM, expression), first)


if __name__ == "__main__":
    unittest.main()
