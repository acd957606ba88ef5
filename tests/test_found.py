"""Point 22: found."""

import copy
import random
import unittest

from samples import (ADD_GROUPED, ADD_NEXT, ADD_NONE, ADD_TURNED, FALSE_ONES, GLUE_END, GLUE_GROUPED, MIRROR_TWICE,
                     WELL_KNOWN, ex, fn, groves, places_of, random_expression, random_functions, random_stock, say,
                     trees)
from stairsay.against import against
from stairsay.finder import found, plain
from stairsay.papers import shows, sided
from stairsay.places import part_at, put_at
from stairsay.programs import Program, kind_of
from stairsay.stocks import Stock

BEFORE = [saying for saying, paper in WELL_KNOWN]
# What is shown by plain forms alone.
ALIKE = (
    say("", "none()", "none()"), say("x num", "x", "x"), say("x num, y num", "add(x, y)", "add(x, y)"),
    say("a line, t tree, x num", "length(glue(a, flat(t, a)))", "length(glue(a, flat(t, a)))"),
    say("", "add(next(none()), none())", "next(none())"), say("", "next(none())", "add(next(none()), none())"),
    say("", "add(next(none()), next(none()))", "times(next(next(none())), next(none()))"),
    say("y num, m num", "add(next(y), m)", "next(add(y, m))"), say("y num, m num", "next(add(y, m))", "add(next(y), m)"),
    say("x num, y num, u line", "add(add(next(x), y), x)", "next(add(add(x, y), x))"),
    say("b line, t num, h line", "glue(put(t, b), put(t, h))", "put(before(next(t)), glue(b, put(t, h)))"),
    say("x num, y num", "before(add(next(x), y))", "add(before(next(x)), add(none(), y))"),
    say("s tree, t tree", "choose(none(), s, t)", "choose(next(none()), t, s)"),
    say("t tree, w wood", "mirror(fork(t, bag(w)))", "fork(bag(w), mirror(t))"),
)
# What needs a climb, with what is shown before.
CLIMBED = (
    (ADD_NONE, []), (ADD_NEXT, []), (ADD_GROUPED, []), (GLUE_END, []), (GLUE_GROUPED, []), (MIRROR_TWICE, []),
    (ADD_TURNED, [ADD_NONE, ADD_NEXT]), (ADD_TURNED, []), (say("x num", "times(x, none())", "none()"), []),
    (say("x num, s tree, t tree", "mirror(choose(x, s, t))", "choose(x, mirror(s), mirror(t))"), []),
    (say("x num, y num", "times(x, next(y))", "add(x, times(x, y))"), BEFORE),
    (say("a line", "length(back(a))", "length(a)"), BEFORE),
)


def grove(texts):
    half = len(texts) // 2
    return texts[0] if half == 0 else "fork(" + grove(texts[:half]) + ", " + grove(texts[half:]) + ")"


class FoundTest(unittest.TestCase):
    def setUp(self):
        self.program = Program(Stock(trees()), groves())

    # The paper found, where there is one; whether it shows the saying and keeps to the bounds for papers.
    def check(self, saying, before, program=None):
        program = program or self.program
        sided(program, saying)
        paper = found(program, before, saying)
        with self.subTest(saying=saying, before=before, paper=paper):
            if paper is not None:
                self.assertIs(shows(program, before, saying, paper), True)
                self.assertLessEqual(self.papers_in(paper, 1), 200)
            if plain(program, saying[1])[0] == plain(program, saying[2])[0]:
                self.assertIsNotNone(paper)
        return paper

    def papers_in(self, paper, deep):
        self.assertLessEqual(deep, 8)
        if paper[0] == "steps":
            self.assertIsInstance(paper[1], tuple)
            self.assertLessEqual(len(paper[1]), 100)
            for place, ground, back, put_ins in paper[1]:
                self.assertIsInstance(back, bool)
                for name, expression in put_ins:
                    self.assertLessEqual(max(len(each) for each in places_of(expression)) + 1, 12)
                    self.assertLessEqual(len(places_of(expression)), 500)
            return 1
        form, name, branches = paper
        self.assertIn(form, ("climb", "split"))
        self.assertIsInstance(branches, tuple)
        return 1 + sum(self.papers_in(below, deep + 1) for names, below in branches)


class TestFound(FoundTest):
    def test_where_plain_tells_the_same(self):
        for saying in ALIKE:
            self.assertEqual(plain(self.program, saying[1])[0], plain(self.program, saying[2])[0])
            for before in ([], BEFORE):
                self.assertIsNotNone(self.check(saying, before))

    def test_where_plain_tells_the_same_and_something_can_still_be_turned(self):
        grown = fn("double", "num", "num", "", ("", "none()"), ("m", "next(next(double(m)))"))
        program = Program(Stock(trees()), groves() + [grown])
        left = ex("double(" + "next(" * 9 + "x" + ")" * 9 + ")")
        for right in (left, plain(program, left)[0]):
            self.assertIsNotNone(self.check(((("x", "num"),), left, right), [], program))

    def test_forty_steps_from_each_side(self):
        left = grove(["leaf(add(next(next(next(none()))), x))"] * 10)
        right = grove(["leaf(next(next(add(next(add(none(), none())), before(next(x))))))"] * 10)
        for side in (left, right):
            self.assertEqual(len(plain(self.program, ex(side))[1]), 40)
        paper = self.check(say("x num", left, right), [])
        self.assertIsNotNone(paper)
        self.check(say("x num", right, left), BEFORE)

    # From each side 36 turns, a step by what is shown and more turns would come to the same.
    def test_no_more_than_a_hundred_steps(self):
        none = "times(next(next(next(next(next(none()))))), none())"
        for count in range(4):
            shown = [say("x num", "times(x, none())", "add(" * k + none + ", none())" * k) for k in (count, count + 1)]
            for before in (shown, shown[:1], shown[1:]):
                around = grove(["leaf(add(next(next(next(none()))), x))"] * 9)
                left, right = [f"fork({around}, leaf(times({name}, none())))" for name in "xy"]
                self.check(say("x num, y num", left, right), before)

    def test_many_names(self):
        for count in (4, 5, 6):
            names = ", ".join(name + " num" for name in "abcdefghijklmnopqrstuvwxyz"[:count])
            paper = self.check(say(names, "add(a, none())", "a"), [])
            self.assertIsNotNone(paper)

    def test_great_sides_that_are_alike(self):
        def full(deep):
            return "leaf(before(next(x)))" if deep == 0 else "fork(" + full(deep - 1) + ", " + full(deep - 1) + ")"

        self.assertEqual(len(places_of(ex(full(6)))), 319)
        self.assertIsNotNone(self.check(say("x num", full(6), full(6)), []))

    def test_sayings_that_do_not_hold_have_none(self):
        for saying in FALSE_ONES:
            for before in ([], BEFORE):
                with self.subTest(saying=saying):
                    self.assertIsNone(self.check(saying, before))
        self.assertIsNone(self.check(say("x num, y num", "add(x, next(y))", "add(x, y)"), []))
        self.assertIsNone(self.check(say("", "times(next(none()), none())", "next(none())"), []))

    # It differs for things alone that are greater than those which are tried first.
    def test_sayings_that_hold_for_small_things_alone_have_none(self):
        for count in (4, 8, 9):
            text = "before(" * count + "x" + ")" * count
            self.assertIsNone(self.check(say("x num", text, "none()"), []))
            self.assertIsNone(self.check(say("x num", text, "none()"), BEFORE))

    def test_sayings_that_need_a_climb(self):
        for saying, before in CLIMBED:
            paper = self.check(saying, before)
            self.assertIsNotNone(paper, saying)
            self.assertEqual(paper[0], "climb")

    def test_well_known_sayings_by_those_ahead(self):
        for k, saying in enumerate(BEFORE):
            self.assertIsNotNone(self.check(saying, BEFORE[:k]), saying)

    def test_sayings_shown_are_used(self):
        saying = say("b line", "glue(back(b), end())", "back(b)")
        self.assertIsNone(self.check(saying, []))
        self.assertIsNotNone(self.check(saying, [GLUE_END]))
        self.assertIsNotNone(self.check(saying, [ADD_NONE, ADD_NEXT, GLUE_END]))
        turned = (GLUE_END[0], GLUE_END[2], GLUE_END[1])
        self.assertIsNotNone(self.check(saying, [ADD_NONE, turned]))

    def test_names_on_neither_side_of_what_is_shown(self):
        saying = say("b line", "glue(back(b), end())", "back(b)")
        self.assertIsNotNone(self.check(saying, [say("a line, u tree, w wood", "glue(a, end())", "a")]))

    def test_a_fixed_name_is_split(self):
        paper = self.check(say("x num, s tree", "choose(before(x), s, s)", "s"), [])
        self.assertIsNotNone(paper)

    def test_the_sayings_names_are_kept_off(self):
        for names in ("a b c d", "p q r s", "z y x w", "m n h t"):
            one, two, three, four = names.split()
            saying = say(f"{one} num, {two} num, {three} num, {four} line", f"add(add({one}, {two}), {three})",
                         f"add({one}, add({two}, {three}))")
            self.assertIsNotNone(self.check(saying, []))

    def test_nothing_that_is_handed_in_is_changed(self):
        before = list(BEFORE)
        for saying in ALIKE + FALSE_ONES + tuple(BEFORE):
            kept = copy.deepcopy((before, saying))
            paper = found(self.program, before, saying)
            self.assertEqual((before, saying), kept)
            self.assertEqual(found(self.program, before, saying), paper)

    def test_shown_changed_later(self):
        before = [GLUE_END]
        saying = say("b line", "glue(back(b), end())", "back(b)")
        paper = found(self.program, before, saying)
        kept = copy.deepcopy(paper)
        before.clear()
        self.assertEqual(paper, kept)
        self.assertIs(shows(self.program, [GLUE_END], saying, paper), True)


# The same expression with something before one of its parts that a turn takes off again.
def with_more(dice, expression, kind_at):
    place = dice.choice(places_of(expression))
    part = part_at(expression, place)
    kind = kind_at(part)
    if kind == "num":
        return put_at(expression, place, ("call", "before", (("make", "next", (part,)),)))
    if kind == "line":
        return put_at(expression, place, ("call", "glue", (("make", "end", ()), part)))
    if kind == "tree":
        return put_at(expression, place, ("call", "choose", (("make", "none", ()), part, part)))
    return expression


class TestFoundAtRandom(FoundTest):
    def test_sides_that_come_to_the_same(self):
        heads = {function: self.program.kinds_of(function) for function in self.program.functions()}
        dice = random.Random(22)
        same = 0
        for k in range(200):
            names = {name: dice.choice(("num", "line", "tree")) for name in dice.sample("xymhtab", 3)}
            kind = dice.choice(("num", "line", "tree"))
            left = random_expression(dice, trees(), heads, names, kind, 3)
            right = left
            for change in range(dice.randint(0, 3)):
                right = with_more(dice, right, lambda part: kind_of(self.program, names, part))
            if dice.random() < 0.5:
                left, right = right, left
            same += plain(self.program, left)[0] == plain(self.program, right)[0]
            self.check((tuple(names.items()), left, right), dice.choice(([], BEFORE)))
        self.assertGreater(same, 150)

    def test_programs_drawn_at_random(self):
        dice = random.Random(23)
        papers = 0
        for seed in range(60):
            kinds = random_stock(seed)
            program = Program(Stock(kinds), random_functions(seed, kinds, 4))
            heads = {function: program.kinds_of(function) for function in program.functions()}
            before = []
            for k in range(6):
                names = {name: dice.choice(kinds)[0] for name in "xyzw"[:dice.randint(0, 4)]}
                kind = dice.choice(kinds)[0]
                left, right = [random_expression(dice, kinds, heads, names, kind, dice.randint(1, 3)) for side in "lr"]
                saying = (tuple(names.items()), left, right)
                if self.check(saying, before, program) is not None:
                    papers += 1
                    self.assertIsNone(against(program, saying, 3, 200))
                    before.append(saying)
        self.assertGreater(papers, 50)


if __name__ == "__main__":
    unittest.main()
