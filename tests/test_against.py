"""Point 23: against."""

import itertools
import random
import unittest

from samples import (END, FALSE_ONES, NONE, WELL_KNOWN, fn, groves, line, number, random_expression, random_functions,
                     random_stock, say, signs, steps, sums, towers, trees, turns)
from stairsay.against import against
from stairsay.errors import TooLong
from stairsay.programs import Program
from stairsay.runs import run
from stairsay.stocks import Stock
from stairsay.things import things

GROVES = Program(Stock(trees()), groves())


# Point 23 once more.
def first_against(program, saying, most, calls):
    names, left, right = saying
    for row in itertools.product(*[things(program.stock, kind, most) for name, kind in names]):
        setting = {name: thing for (name, kind), thing in zip(names, row)}
        told = []
        for side in (left, right):
            try:
                told.append(run(program, setting, side, calls))
            except TooLong:
                pass
        if len(told) == 2 and told[0] != told[1]:
            return setting
    return None


class TestAgainst(unittest.TestCase):
    def check(self, wanted, saying, most=12, calls=500, program=GROVES):
        with self.subTest(saying=saying, most=most, calls=calls):
            told = against(program, saying, most, calls)
            self.assertEqual(told, wanted)
            self.assertEqual(told, first_against(program, saying, most, calls))
            if wanted is not None:
                self.assertIsInstance(told, dict)
                self.assertEqual(list(told), [name for name, kind in saying[0]])

    def test_no_names(self):
        self.check({}, say("", "none()", "next(none())"))
        self.check({}, say("", "add(next(none()), none())", "none()"))
        self.check(None, say("", "none()", "none()"))
        self.check(None, say("", "add(next(none()), none())", "next(none())"))
        # One setting, whatever most is.
        self.check({}, say("", "none()", "next(none())"), most=1, calls=0)
        self.check(None, say("", "before(none())", "next(none())"), calls=0)
        self.check({}, say("", "before(none())", "next(none())"), calls=1)

    def test_one_name(self):
        self.check({"x": NONE}, say("x num", "next(x)", "x"))
        self.check({"x": number(1)}, say("x num", "times(x, x)", "none()"))
        self.check({"x": number(2)}, say("x num", "times(x, x)", "x"))
        self.check({"a": line(0, 1)}, say("a line", "back(a)", "a"))
        self.check(None, say("x num", "add(x, none())", "x"))

    def test_most_is_how_many_things_are_tried(self):
        two = say("x num", "times(x, x)", "x")
        self.check(None, two, most=1)
        self.check(None, two, most=2)
        self.check({"x": number(2)}, two, most=3)
        far = say("x num", "before(before(before(before(before(before(x))))))", "none()")
        self.check(None, far, most=12)

    def test_most_greater_than_the_count_of_things(self):
        program = Program(Stock(signs() + steps()), turns())
        self.check({"s": ("yes", ())}, say("s sign", "flip(s)", "s"), program=program)
        self.check(None, say("s sign", "flip(flip(s))", "s"), program=program)
        # Four signs and seven steps of a size of at most 7: the next sign comes when all steps are gone through.
        self.assertEqual([len(things(program.stock, kind, 12)) for kind in ("sign", "num")], [4, 7])
        other_flip = fn("flip", "sign", "sign", "", ("", "no()"), ("", "yes()"), ("", "never()"), ("", "no()"))
        self.check({"s": ("maybe", ()), "x": NONE}, say("s sign, x num", "s", "flip(flip(s))"),
                   program=Program(program.stock, [other_flip]))

    def test_kinds_without_small_things(self):
        program = Program(Stock(towers()), [])
        self.assertEqual(things(program.stock, "third", 12), [])
        # No setting at all, although the sides differ in each.
        names = (("x", "third"), ("y", "third"))
        self.check(None, (names, ("name", "x"), ("name", "y")), program=program)
        self.check(None, ((("g", "ground"), ("y", "third")), ("name", "y"), ("name", "y")), program=program)

    def test_two_names_in_order(self):
        self.check({"x": NONE, "y": number(1)}, say("x num, y num", "x", "y"))
        self.check({"y": NONE, "x": number(1)}, say("y num, x num", "x", "y"))
        self.check({"x": number(1), "y": NONE}, say("x num, y num", "times(x, next(y))", "times(y, x)"))
        self.check({"x": number(1), "y": number(2)}, say("x num, y num", "times(x, times(y, y))", "times(x, y)"))
        self.check({"a": line(0), "b": line(1)}, say("a line, b line", "glue(a, b)", "glue(b, a)"))
        self.check({"x": NONE, "a": END}, say("x num, a line", "length(put(x, a))", "x"))

    def test_the_last_name_changes_first(self):
        # Both (none, two) and (one, none) speak against it; the first is that whose first name is the lesser.
        saying = say("x num, y num", "add(x, before(y))", "none()")
        self.check({"x": NONE, "y": number(2)}, saying)
        self.check({"x": number(1), "y": NONE}, saying, most=2)
        self.check({"y": NONE, "x": number(1)}, say("y num, x num", "add(x, before(y))", "none()"))

    def test_three_and_four_names(self):
        self.check({"x": NONE, "y": NONE, "z": number(1)}, say("x num, y num, z num", "add(x, add(y, z))", "x"))
        self.check({"x": number(1), "y": number(1), "z": number(2)},
                   say("x num, y num, z num", "times(x, times(y, z))", "times(times(x, y), times(z, z))"))
        self.check(None, say("x num, y num, z num", "add(add(x, y), z)", "add(x, add(y, z))"), most=7)
        self.check({"x": NONE, "y": NONE, "a": END, "z": number(1)}, say("x num, y num, a line, z num", "z", "x"))
        self.check(None, say("x num, y num, a line, z num", "length(put(x, a))", "next(length(a))"), most=4)

    def test_names_on_neither_side_are_in_the_setting(self):
        self.check({"u": NONE, "x": NONE, "a": END}, say("u num, x num, a line", "next(x)", "x"))

    def test_calls(self):
        saying = say("x num", "next(x)", "add(x, none())")
        # add of k steps and none has k + 1 calls.
        self.check(None, saying, calls=0)
        self.check({"x": NONE}, saying, calls=1)
        later = say("x num", "add(x, none())", "times(x, x)")
        self.check({"x": number(2)}, later, calls=9)
        self.check(None, later, calls=8)

    def test_calls_are_counted_for_each_side_by_itself(self):
        saying = say("x num", "before(before(x))", "next(before(before(x)))")
        self.check({"x": NONE}, saying, calls=2)
        self.check(None, saying, calls=1)

    def test_refused_runs_are_passed_over(self):
        # Of none, early has four calls and late one; of greater steps, early has one and late three or more.
        program = Program(Stock(steps()), sums() + [
            fn("early", "num", "num", "", ("", "add(next(next(none())), none())"), ("m", "none()")),
            fn("late", "num", "num", "", ("", "next(none())"), ("m", "add(before(m), next(none()))"))])
        saying = say("x num", "early(x)", "late(x)")
        self.check({"x": NONE}, saying, calls=4, program=program)
        self.check({"x": number(1)}, saying, calls=3, program=program)
        self.check(None, saying, calls=2, program=program)
        self.check(None, saying, calls=0, program=program)
        turned = say("x num", "late(x)", "early(x)")
        self.check({"x": number(1)}, turned, calls=3, program=program)

    def test_too_deep_runs_are_passed_over(self):
        program = Program(Stock(steps()), [
            fn("down", "num num", "num", "y", ("", "y"), ("m", "down(m, next(next(next(next(next(next(y)))))))"))])
        # Seven times six makers within one another are too deep.
        self.check({"x": number(1)}, say("x num", "down(next(x), none())", "next(next(next(next(next(next(none()))))))"),
                   program=program)
        self.check(None, say("x num", "down(next(next(next(next(next(next(next(x))))))), none())", "none()"),
                   program=program)

    def test_well_known_sayings(self):
        for saying, paper in WELL_KNOWN:
            self.check(None, saying, most=4)
        for saying in FALSE_ONES:
            self.assertIsNotNone(against(GROVES, saying, 12, 500))
            self.check(first_against(GROVES, saying, 12, 500), saying)

    def test_drawn_at_random(self):
        dice = random.Random(23)
        answers = {True: 0, False: 0}
        for seed in range(60):
            kinds = random_stock(seed)
            program = Program(Stock(kinds), random_functions(seed, kinds, 4))
            heads = {function: program.kinds_of(function) for function in program.functions()}
            for k in range(6):
                names = {name: dice.choice(kinds)[0] for name in "xyz"[:dice.randint(0, 3)]}
                kind = dice.choice(kinds)[0]
                left, right = [random_expression(dice, kinds, heads, names, kind, 3) for side in range(2)]
                saying = (tuple(names.items()), left, right)
                most, calls = dice.randint(1, 5), dice.choice((0, 1, 2, 5, 20, 500))
                wanted = first_against(program, saying, most, calls)
                self.check(wanted, saying, most, calls, program)
                answers[wanted is None] += 1
        self.assertGreater(min(answers.values()), 50)

    def test_what_is_told_is_the_askers_own(self):
        saying = say("x num, y num", "x", "y")
        told = against(GROVES, saying, 3, 10)
        told.clear()
        self.check({"x": NONE, "y": number(1)}, saying, 3, 10)
        self.assertEqual(saying, say("x num, y num", "x", "y"))


if __name__ == "__main__":
    unittest.main()
