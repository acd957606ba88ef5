import copy
import random
import unittest

from samples import (ALL_SAMPLES, END, NONE, ex, fn, groves, joins, line, lines, number, random_expression,
                     random_functions, signs, trees, turns)
from stairsay.errors import TooLong
from stairsay.programs import Program
from stairsay.runs import run
from stairsay.stocks import Stock
from stairsay.things import is_thing, size


def depth(thing):
    return 1 + max([depth(part) for part in thing[1]], default=0)


class TooMuch(Exception):
    pass


# What points 13 and 14 tell, straight from functions as they are handed in: the thing, how many calls, how deep the
# deepest one is, and the greatest size and depth of a thing that is made.
class Told:
    def __init__(self, kinds, functions):
        self.makers_of = dict(kinds)
        self.functions = {function[0]: function for function in functions}
        self.calls = self.deepest = self.size = self.depth = 0

    def worth(self, setting, expression, deep=1):
        if expression[0] == "name":
            return setting[expression[1]]
        arguments = tuple(self.worth(setting, argument, deep) for argument in expression[2])
        if expression[0] == "make":
            thing = (expression[1], arguments)
            self.size, self.depth = max(self.size, size(thing)), max(self.depth, depth(thing))
            if self.size > 2000:
                raise TooMuch
            return thing
        self.calls, self.deepest = self.calls + 1, max(self.deepest, deep)
        if self.calls > 2500 or self.deepest > 30:
            raise TooMuch
        name, kinds, kind, others, rows = self.functions[expression[1]]
        makers = [maker for maker, parts in self.makers_of[kinds[0]]]
        names, body = rows[makers.index(arguments[0][0])]
        return self.worth(dict(zip(names + others, arguments[0][1] + arguments[1:])), body, deep + 1)


# Makers with parts are taken rather than others, so that there are things of many sizes.
def random_thing(dice, kinds, kind, deep):
    makers = dict(kinds)[kind]
    maker, parts = makers[0] if deep <= 0 else max(dice.choices(makers, k=3), key=lambda made: len(made[1]))
    thing = (maker, tuple(random_thing(dice, kinds, part, deep - 1) for part in parts))
    return thing if size(thing) <= 300 else random_thing(dice, kinds, kind, deep - 1)


def to_number(thing):
    return depth(thing) - 1


def to_list(thing):
    return [] if thing == END else [to_number(thing[1][0])] + to_list(thing[1][1])


class TestRun(unittest.TestCase):
    def setUp(self):
        self.program = Program(Stock(trees()), groves())

    def run_it(self, text, setting=None, most=2000):
        return run(self.program, setting or {}, ex(text), most)

    def check_count(self, text, setting, count):
        for most in (count, count + 1, 2000):
            self.assertEqual(self.run_it(text, setting, most), self.run_it(text, setting))
        for most in range(max(0, count - 3), count):
            with self.subTest(text=text, most=most):
                with self.assertRaises(TooLong):
                    self.run_it(text, setting, most)

    def test_names(self):
        setting = {"x": number(3), "a": line(1, 2)}
        self.assertEqual(self.run_it("x", setting, 0), number(3))
        self.assertEqual(self.run_it("a", setting, 0), line(1, 2))

    def test_makers(self):
        setting = {"x": number(3), "a": line(1, 2)}
        self.assertEqual(self.run_it("none()", most=0), NONE)
        self.assertEqual(self.run_it("next(x)", setting, 0), number(4))
        self.assertEqual(self.run_it("put(x, put(next(x), a))", setting, 0), line(3, 4, 1, 2))
        self.assertEqual(self.run_it("fork(leaf(x), leaf(none()))", setting, 0),
                         ("fork", (("leaf", (number(3),)), ("leaf", (NONE,)))))

    def test_calls(self):
        for first in range(6):
            for second in range(6):
                setting = {"x": number(first), "y": number(second)}
                self.assertEqual(to_number(self.run_it("add(x, y)", setting)), first + second)
                self.assertEqual(to_number(self.run_it("times(x, y)", setting)), first * second)
                self.assertEqual(to_number(self.run_it("before(x)", setting)), max(0, first - 1))

    def test_lines_and_calls_within_arguments(self):
        for numbers in ([], [0], [2, 1], [1, 0, 3], [5, 5, 0, 1]):
            for others in ([], [1], [3, 0, 2]):
                setting = {"a": line(*numbers), "b": line(*others)}
                self.assertEqual(to_list(self.run_it("glue(a, b)", setting)), numbers + others)
                self.assertEqual(to_list(self.run_it("back(glue(a, b))", setting)), (numbers + others)[::-1])
                self.assertEqual(to_list(self.run_it("turn(a, b)", setting)), numbers[::-1] + others)
                self.assertEqual(to_number(self.run_it("add(length(a), length(back(b)))", setting)),
                                 len(numbers) + len(others))

    def test_further_arguments_and_parts_in_their_order(self):
        setting = {"s": ("leaf", (NONE,)), "t": ("fork", (("leaf", (number(1),)), ("leaf", (number(2),))))}
        self.assertEqual(self.run_it("choose(none(), s, t)", setting), setting["s"])
        self.assertEqual(self.run_it("choose(next(none()), s, t)", setting), setting["t"])
        self.assertEqual(self.run_it("mirror(t)", setting), ("fork", (("leaf", (number(2),)), ("leaf", (number(1),)))))
        self.assertEqual(self.run_it("flat(t, put(none(), end()))", setting), line(1, 2, 0))
        signed = Program(Stock(signs()), turns())
        for before, after in (("yes", "no"), ("no", "yes"), ("maybe", "never"), ("never", "maybe")):
            self.assertEqual(run(signed, {"s": (before, ())}, ex("flip(s)"), 1), (after, ()))

    def test_names_of_rows_hide_those_of_the_setting(self):
        setting = {"m": number(5), "y": number(1), "x": number(2), "h": number(4)}
        self.assertEqual(self.run_it("add(x, y)", setting), number(3))
        self.assertEqual(self.run_it("add(m, h)", setting), number(9))

    def test_calls_are_counted(self):
        setting = {"x": number(3), "y": number(2), "a": line(1, 2, 3), "b": line(0)}
        self.check_count("add(none(), y)", setting, 1)
        self.check_count("add(x, y)", setting, 4)
        # Three rounds, each with a sum of two, and a last one.
        self.check_count("times(x, y)", setting, 4 + 3 * 3)
        self.check_count("length(a)", setting, 4)
        self.check_count("back(a)", setting, 4 + 1 + 2 + 3)
        self.check_count("back(back(a))", setting, 20)
        self.check_count("next(add(x, add(x, y)))", setting, 8)

    def test_each_time_is_counted(self):
        setting = {"x": number(1), "s": ("leaf", (NONE,))}
        self.check_count("add(before(x), before(x))", setting, 3)
        self.check_count("fork(mirror(s), mirror(s))", setting, 2)

    def test_calls_that_nothing_is_made_of_are_counted(self):
        setting = {"x": number(3), "s": ("leaf", (NONE,))}
        self.check_count("choose(none(), s, mirror(s))", setting, 2)
        self.check_count("choose(none(), s, leaf(add(x, x)))", setting, 5)
        self.check_count("choose(add(x, x), leaf(add(x, x)), s)", setting, 9)

    def test_most_nought(self):
        self.assertEqual(self.run_it("next(none())", most=0), number(1))
        with self.assertRaises(TooLong):
            self.run_it("before(none())", most=0)
        with self.assertRaises(TooLong):
            self.run_it("next(next(before(none())))", most=0)

    def test_many_calls(self):
        setting = {"x": number(19), "y": number(0)}
        sums = "none()"
        for k in range(10):
            sums = f"add(x, times(y, {sums}))"
        self.check_count(sums, setting, 210)
        self.assertEqual(self.run_it(sums, setting), number(19))

    def test_how_deep_calls_may_be(self):
        for count in (0, 18, 19):
            self.assertEqual(self.run_it("add(x, none())", {"x": number(count)}), number(count))
            self.assertEqual(self.run_it("length(a)", {"a": line(*[0] * count)}), number(count))
        for count in (20, 21, 30):
            with self.assertRaises(TooLong):
                self.run_it("add(x, none())", {"x": number(count)})
            with self.assertRaises(TooLong):
                self.run_it("length(a)", {"a": line(*[0] * count)})

    def test_calls_in_arguments_are_no_deeper(self):
        setting = {"x": number(19), "a": line(*[0] * 19), "y": number(1)}
        self.assertEqual(self.run_it("add(length(a), add(x, none()))", setting), number(38))
        self.assertEqual(self.run_it("length(back(a))", {"a": line(*[0] * 9)}), number(9))
        text = "y"
        for k in range(11):
            text = f"before({text})"
        self.assertEqual(self.run_it(text, setting, 11), NONE)

    def test_calls_in_a_body_are_one_deeper_wherever_they_stand(self):
        # times of count is count + 1 deep; the sum in its last body but one stands as deep as its last call.
        self.assertEqual(self.run_it("times(x, y)", {"x": number(19), "y": number(0)}), NONE)
        with self.assertRaises(TooLong):
            self.run_it("times(x, y)", {"x": number(20), "y": number(0)})
        self.assertEqual(self.run_it("times(x, y)", {"x": number(1), "y": number(18)}), number(18))
        with self.assertRaises(TooLong):
            self.run_it("times(x, y)", {"x": number(1), "y": number(19)})

    def test_deep_calls_that_nothing_is_made_of(self):
        setting = {"x": number(20), "s": ("leaf", (NONE,))}
        with self.assertRaises(TooLong):
            self.run_it("choose(none(), s, leaf(add(x, x)))", setting)

    def test_size_of_what_is_made(self):
        # A line of numbers none has two makers for each and one for its end; a fork of two adds one.
        full = ("leaf", (NONE,))
        for k in range(6):
            full = ("fork", (full, full))
        self.assertEqual(size(full), 191)
        hundred = ("fork", (full[1][0], ("leaf", (number(10),))))
        self.assertEqual(size(hundred), 108)
        self.assertEqual(size(self.run_it("fork(s, t)", {"s": full, "t": hundred})), 300)
        greater = ("fork", (full[1][0], ("leaf", (number(11),))))
        with self.assertRaises(TooLong):
            self.run_it("fork(s, t)", {"s": full, "t": greater})
        with self.assertRaises(TooLong):
            self.run_it("mirror(s)", {"s": ("fork", (full, greater))})
        self.assertEqual(size(self.run_it("mirror(s)", {"s": ("fork", (full, hundred))})), 300)

    def test_size_within_and_where_nothing_is_made_of_it(self):
        full = ("leaf", (NONE,))
        for k in range(6):
            full = ("fork", (full, full))
        setting = {"s": full, "x": NONE, "a": END}
        with self.assertRaises(TooLong):
            self.run_it("choose(x, s, fork(s, s))", setting)
        with self.assertRaises(TooLong):
            self.run_it("flat(bag(lone(fork(s, s), a)), a)", setting)

    def test_depth_of_what_is_made(self):
        self.assertEqual(self.run_it("next(x)", {"x": number(38)}), number(39))
        with self.assertRaises(TooLong):
            self.run_it("next(x)", {"x": number(39)})
        self.assertEqual(self.run_it("add(x, y)", {"x": number(19), "y": number(20)}), number(39))
        with self.assertRaises(TooLong):
            self.run_it("add(x, y)", {"x": number(19), "y": number(21)})
        self.assertEqual(self.run_it("put(x, a)", {"x": number(38), "a": END}), line(38))
        with self.assertRaises(TooLong):
            self.run_it("put(x, a)", {"x": number(39), "a": END})
        with self.assertRaises(TooLong):
            self.run_it("put(x, a)", {"x": NONE, "a": line(*[0] * 39)})
        self.assertEqual(self.run_it("put(x, a)", {"x": NONE, "a": line(*[0] * 38)}), line(*[0] * 39))

    def test_depth_of_what_is_made_from_nothing(self):
        setting = {"x": number(19)}
        self.assertEqual(self.run_it("add(x, add(x, next(none())))", setting), number(39))
        with self.assertRaises(TooLong):
            self.run_it("add(x, add(x, next(next(none()))))", setting)

    def test_things_of_the_setting_that_are_merely_told(self):
        great = line(*[21] * 13)
        self.assertEqual(size(great), 300)
        for thing in (number(39), great, number(45), line(*[0] * 60), line(*[20] * 20)):
            self.assertEqual(self.run_it("x", {"x": thing}, 0), thing)
        self.assertEqual(self.run_it("before(x)", {"x": number(39)}), number(38))
        self.assertEqual(self.run_it("before(x)", {"x": number(45)}, 1), number(44))
        self.assertEqual(self.run_it("glue(end(), a)", {"a": great}), great)
        self.assertEqual(self.run_it("choose(x, leaf(x), t)", {"x": NONE, "t": ("leaf", (number(70),))}),
                         ("leaf", (NONE,)))

    def test_deep_bodies_in_deep_calls(self):
        body = "deeper(m, y)"
        for k in range(10):
            body = f"add(none(), {body})"
        functions = joins() + [fn("deeper", "num num", "num", "y", ("", "y"), ("m", body))]
        program = Program(Stock(lines()), functions)
        setting = {"x": number(19), "y": number(7)}
        self.assertEqual(run(program, setting, ex("deeper(x, y)"), 210), number(7))
        with self.assertRaises(TooLong):
            run(program, setting, ex("deeper(x, y)"), 209)
        with self.assertRaises(TooLong):
            run(program, {"x": number(20), "y": NONE}, ex("deeper(x, y)"), 2000)

    def test_runs_that_would_go_on_for_long_are_refused(self):
        functions = [fn("twice", "num num", "num", "y", ("", "y"), ("m", "twice(m, twice(m, y))")),
                     fn("wide", "num line", "line", "b", ("", "b"), ("m", "wide(m, wide(m, put(m, b)))"))]
        program = Program(Stock(lines()), functions)
        for text in ("twice(x, x)", "wide(x, end())"):
            with self.assertRaises(TooLong):
                run(program, {"x": number(19)}, ex(text), 2000)
        self.assertEqual(run(program, {"x": number(9)}, ex("twice(x, x)"), 1023), number(9))
        with self.assertRaises(TooLong):
            run(program, {"x": number(9)}, ex("twice(x, x)"), 1022)

    def test_the_setting_stays(self):
        setting = {"x": number(3), "m": number(1), "unused": END}
        kept = copy.deepcopy(setting)
        self.run_it("add(x, m)", setting)
        with self.assertRaises(TooLong):
            self.run_it("add(x, m)", setting, 1)
        self.assertEqual(setting, kept)
        told = self.run_it("add(x, m)", setting)
        setting.clear()
        self.run_it("add(x, m)", {"x": NONE, "m": NONE})
        self.assertEqual(told, number(4))

    def test_runs_one_after_the_other_are_counted_apart(self):
        for k in range(3):
            self.assertEqual(self.run_it("add(x, x)", {"x": number(2)}, 3), number(4))


class TestRandom(unittest.TestCase):
    def test_random_runs(self):
        dice = random.Random(14)
        told_ones = refused = 0
        for seed in range(900):
            kinds = ALL_SAMPLES[seed % len(ALL_SAMPLES)]()
            functions = random_functions(seed, kinds, 4)
            stock = Stock(kinds)
            program = Program(stock, functions)
            heads = {function: program.kinds_of(function) for function in program.functions()}
            names = {name: dice.choice(stock.kinds()) for name in ("x", "y", "pa", "oa")}
            setting = {name: random_thing(dice, kinds, kind, dice.randint(0, 12)) for name, kind in names.items()}
            kind = dice.choice(stock.kinds())
            expression = random_expression(dice, kinds, heads, names, kind, 5)
            outcome = self.check(kinds, functions, program, setting, expression, kind)
            told_ones, refused = told_ones + (outcome is not None), refused + (outcome is None)
        self.assertGreater(told_ones, 400)
        self.assertGreater(refused, 20)

    def check(self, kinds, functions, program, setting, expression, kind):
        told = Told(kinds, functions)
        try:
            thing = told.worth(setting, expression)
            bounded = told.deepest <= 20 and told.size <= 300 and told.depth <= 40
        except TooMuch:
            thing, bounded = None, False
        for most in (0, told.calls - 1, told.calls, told.calls + 1, 2000):
            if not 0 <= most <= 2000:
                continue
            with self.subTest(expression=expression, functions=functions, most=most):
                if bounded and told.calls <= most:
                    self.assertEqual(run(program, setting, expression, most), thing)
                    self.assertIs(is_thing(program.stock, kind, thing), True)
                else:
                    with self.assertRaises(TooLong):
                        run(program, setting, expression, most)
        return thing if bounded else None


if __name__ == "__main__":
    unittest.main()
