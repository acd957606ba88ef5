"""Papers that are made and changed at random: shows against points 18 to 20 written once more, and against runs."""

import copy
import itertools
import random
import re
import unittest

from samples import FALSE_ONES, WELL_KNOWN, groves, places_of, random_expression, trees
from stairsay.errors import SayError, TooLong
from stairsay.papers import shows
from stairsay.places import matched
from stairsay.programs import Program, kind_of
from stairsay.runs import run
from stairsay.stocks import Stock
from stairsay.things import things

KINDS = trees()
MAKERS = {kind: makers for kind, makers in KINDS}
FUNCTIONS = {function[0]: function for function in groves()}
PROGRAM = Program(Stock(KINDS), groves())
HEADS = {function: PROGRAM.kinds_of(function) for function in PROGRAM.functions()}
BEFORE = [saying for saying, paper in WELL_KNOWN]
TEXTS = ["x", "y", "z", "a", "b", "c", "t", "p", "q", "r", "s", "w", "n", "m", "h", "", "P", "add", "none", "unknown"]
NUMBERS = [0, 0, 0, 1, 1, 2, 3, 5, -1, -2, 10 ** 20]


def put_in(expression, pairs):
    if expression[0] == "name":
        return dict(pairs).get(expression[1], expression)
    return expression[:2] + (tuple(put_in(argument, pairs) for argument in expression[2]),)


def exchange(expression, place, old, new):
    if place == ():
        return new if expression == old else None
    if expression[0] == "name" or place[0] not in range(len(expression[2])):
        return None
    below = exchange(expression[2][place[0]], place[1:], old, new)
    if below is None:
        return None
    arguments = list(expression[2])
    arguments[place[0]] = below
    return expression[:2] + (tuple(arguments),)


# A goal is a tuple (left, right, names, open ones, lessers): names pairs (name, kind), lessers tuples (pairs, left,
# right).
def ground_of(goal, before, ground):
    if ground[0] == "row":
        for name, kinds, kind, others, rows in FUNCTIONS.values():
            for (maker, parts), (names, body) in zip(MAKERS[kinds[0]], rows):
                if ground[1:] == (name, maker):
                    made = ("make", maker, tuple(("name", each) for each in names))
                    call = ("call", name, (made,) + tuple(("name", each) for each in others))
                    return list(zip(names + others, parts + kinds[1:])), call, body
        return None
    known = before if ground[0] == "shown" else goal[4]
    return known[ground[1]] if ground[1] in range(len(known)) else None


def step_to(goal, before, expression, step):
    place, ground, back, put_ins = step
    told = ground_of(goal, before, ground)
    if told is None or sorted(name for name, kind in told[0]) != sorted(name for name, other in put_ins):
        return None
    for name, other in put_ins:
        try:
            if kind_of(PROGRAM, dict(goal[2]), other) != dict(told[0])[name]:
                return None
        except SayError:
            return None
    sides = [put_in(told[1], put_ins), put_in(told[2], put_ins)]
    if back:
        sides.reverse()
    return exchange(expression, place, sides[0], sides[1])


def goal_below(goal, form, name, maker, parts, names):
    left, right, kinds, opens, lessers = goal
    kind = dict(kinds)[name]
    made = [(name, ("make", maker, tuple(("name", each) for each in names)))]
    below = [lesser for lesser in lessers]
    if form == "climb":
        for each, part in zip(names, parts):
            if part == kind:
                part_in = [(name, ("name", each))]
                pairs = [pair for pair in kinds if pair[0] in opens and pair[0] != name]
                below.append((pairs, put_in(left, part_in), put_in(right, part_in)))
    elif name not in opens:
        below = [(pairs, put_in(one, made), put_in(other, made)) for pairs, one, other in lessers]
    kinds_below = [pair for pair in kinds if pair[0] != name] + list(zip(names, parts))
    return put_in(left, made), put_in(right, made), kinds_below, [each for each in opens if each != name], below


def good(goal, before, paper):
    if paper[0] == "steps":
        expression = goal[0]
        for step in paper[1]:
            expression = step_to(goal, before, expression, step)
            if expression is None:
                return False
        return expression == goal[1]
    form, name, branches = paper
    kinds, opens = dict(goal[2]), goal[3]
    if name not in kinds or (form == "climb" and name not in opens) or len(branches) != len(MAKERS[kinds[name]]):
        return False
    taken = list(kinds) + [each for pairs, left, right in goal[4] for each, kind in pairs]
    for (maker, parts), (names, below) in zip(MAKERS[kinds[name]], branches):
        if len(names) != len(parts):
            return False
        for k, each in enumerate(names):
            if not re.fullmatch("[a-z]{1,12}", each) or each in taken or each in names[:k]:
                return False
        if not good(goal_below(goal, form, name, maker, parts, names), before, below):
            return False
    return True


def first_goal(saying):
    return saying[1], saying[2], list(saying[0]), [name for name, kind in saying[0]], []


def any_expression(dice, kinds, kind):
    return random_expression(dice, KINDS, HEADS, kinds, kind, dice.randint(0, 2))


def any_ground(dice, goal, before):
    rows = [("row", name, maker) for name, function in FUNCTIONS.items() for maker, parts in MAKERS[function[1][0]]]
    shown = [("shown", k) for k in range(len(before))]
    lessers = [("lesser", k) for k in range(len(goal[4]))]
    return dice.choice(dice.choice([pool for pool in (rows, shown, lessers) if pool]))


# A good step from the expression, with what it makes, or None where the dice find none.
def any_step(dice, goal, before, expression):
    for attempt in range(30):
        ground, back = any_ground(dice, goal, before), dice.random() < 0.4
        place = dice.choice(places_of(expression))
        told = ground_of(goal, before, ground)
        part = expression
        for number in place:
            part = part[2][number]
        found = matched(told[2 if back else 1], part)
        if found is None:
            continue
        put_ins = [(name, found.get(name) or any_expression(dice, dict(goal[2]), kind)) for name, kind in told[0]]
        step = (place, ground, back, tuple(dice.sample(put_ins, len(put_ins))))
        made = step_to(goal, before, expression, step)
        if made is not None and len(places_of(made)) < 60:
            return step, made
    return None


def forth_and_back(dice, goal, before):
    expression, forth = goal[0], []
    for k in range(dice.randint(0, 4)):
        found = any_step(dice, goal, before, expression)
        if found is not None:
            forth.append(found[0])
            expression = found[1]
    return tuple(forth) + tuple((place, ground, not back, put_ins) for place, ground, back, put_ins in reversed(forth))


# A good paper for a goal whose sides are the same.
def any_paper(dice, goal, before, deep):
    if deep == 0 or not goal[2] or dice.random() < 0.2:
        return ("steps", forth_and_back(dice, goal, before))
    form = dice.choice(("climb", "split")) if goal[3] else "split"
    name = dice.choice(goal[3] if form == "climb" else [each for each, kind in goal[2]])
    taken = [each for each, kind in goal[2]] + [each for pairs, left, right in goal[4] for each, kind in pairs]
    fresh = [each for each in TEXTS if re.fullmatch("[a-z]+", each) and each not in taken]
    branches = []
    for maker, parts in MAKERS[dict(goal[2])[name]]:
        names = tuple(dice.sample(fresh, len(parts)))
        below = goal_below(goal, form, name, maker, parts, names)
        branches.append((names, any_paper(dice, below, before, deep - 1)))
    return (form, name, tuple(branches))


def change_one(dice, items, change):
    if not items:
        return items
    k = dice.randrange(len(items))
    return items[:k] + (change(items[k]),) + items[k + 1:]


def other_items(dice, items):
    if not items:
        return items
    k, j = dice.randrange(len(items)), dice.randrange(len(items))
    return dice.choice([items[:k] + items[k + 1:], items + (items[k],), items[:k] + (items[j],) + items[k + 1:],
                        tuple(reversed(items))])


def other_step(dice, step):
    place, ground, back, put_ins = step
    way = dice.randrange(6)
    if way == 0:
        place = dice.choice([place[:-1], place + (dice.choice(NUMBERS),), place[:-1] + (dice.choice(NUMBERS),)])
    elif way == 1:
        if ground[0] == "row":
            ground = dice.choice([("row", dice.choice(list(FUNCTIONS) + TEXTS), ground[2]), ("shown", 0), ("lesser", 0),
                                  ("row", ground[1], dice.choice(["none", "next", "end", "put", "fork", "unknown"]))])
        else:
            ground = (dice.choice(("shown", "lesser")), dice.choice(NUMBERS + [ground[1] + 1, ground[1] - 1]))
    elif way == 2:
        back = not back
    elif way == 3:
        put_ins = other_items(dice, put_ins)
    elif way == 4:
        put_ins = change_one(dice, put_ins, lambda pair: (dice.choice(TEXTS), pair[1]))
    else:
        kinds = {name: dice.choice(list(MAKERS)) for name in TEXTS}
        other = any_expression(dice, kinds, dice.choice(list(MAKERS)))
        put_ins = change_one(dice, put_ins, lambda pair: (pair[0], other))
    return (place, ground, back, put_ins)


def other_paper(dice, paper):
    if paper[0] == "steps":
        if dice.random() < 0.2:
            return ("steps", other_items(dice, paper[1]))
        return ("steps", change_one(dice, paper[1], lambda step: other_step(dice, step)))
    form, name, branches = paper
    way = dice.randrange(8)
    if way == 0:
        return (dice.choice(("climb", "split")), name, branches)
    if way == 1:
        return (form, dice.choice(TEXTS), branches)
    if way == 2:
        return (form, name, other_items(dice, branches))
    if way == 3:
        return (form, name, change_one(dice, branches, lambda branch: (change_one(
            dice, branch[0], lambda each: dice.choice(TEXTS)), branch[1])))
    return (form, name, change_one(dice, branches, lambda branch: (branch[0], other_paper(dice, branch[1]))))


def any_saying(dice):
    kinds = {name: dice.choice(("num", "line", "tree", "wood")) for name in dice.sample("x y z a b t".split(), 3)}
    side = random_expression(dice, KINDS, HEADS, kinds, dice.choice(("num", "line", "tree")), 3)
    return (tuple(kinds.items()), side, side)


# Whether both sides are the same for the first things of each kind; runs that are refused are passed over.
def seems_to_hold(saying, most):
    names, left, right = saying
    for row in itertools.product(*[things(PROGRAM.stock, kind, most) for name, kind in names]):
        setting = dict(zip([name for name, kind in names], row))
        try:
            if run(PROGRAM, setting, left, 500) != run(PROGRAM, setting, right, 500):
                return False
        except TooLong:
            pass
    return True


class TestRandomPapers(unittest.TestCase):
    def check(self, before, saying, paper):
        answer = good(first_goal(saying), before, paper)
        with self.subTest(saying=saying, paper=paper):
            self.assertIs(shows(PROGRAM, before, saying, paper), answer)
        return answer

    def test_papers_made_at_random_are_good(self):
        dice = random.Random(18)
        for k in range(400):
            saying = any_saying(dice)
            self.assertIs(self.check(BEFORE, saying, any_paper(dice, first_goal(saying), BEFORE, 3)), True)

    def test_papers_made_and_changed(self):
        dice = random.Random(19)
        answers = {True: 0, False: 0}
        for k in range(1500):
            saying = any_saying(dice)
            paper = any_paper(dice, first_goal(saying), BEFORE, 3)
            for change in range(dice.randint(1, 2)):
                paper = other_paper(dice, paper)
            answers[self.check(BEFORE, saying, paper)] += 1
        self.assertGreater(min(answers.values()), 200)

    def test_papers_of_well_known_sayings_changed(self):
        dice = random.Random(20)
        for k in range(3000):
            saying, paper = dice.choice(WELL_KNOWN)
            for change in range(dice.randint(1, 3)):
                paper = other_paper(dice, paper)
            self.check(BEFORE, saying, paper)

    def test_no_paper_shows_what_does_not_hold(self):
        dice = random.Random(21)
        for saying in BEFORE:
            self.assertIs(seems_to_hold(saying, 5), True)
        for saying in FALSE_ONES:
            self.assertIs(seems_to_hold(saying, 12), False)
        for k in range(3000):
            paper = dice.choice(WELL_KNOWN)[1]
            for change in range(dice.randint(0, 4)):
                paper = other_paper(dice, paper)
            saying = dice.choice(FALSE_ONES)
            self.assertIs(self.check(BEFORE, saying, paper), False)

    def test_nothing_that_is_handed_in_is_changed(self):
        dice = random.Random(22)
        before = list(BEFORE)
        for saying, paper in WELL_KNOWN + tuple((saying, other_paper(dice, paper)) for saying, paper in WELL_KNOWN):
            kept = copy.deepcopy((before, saying, paper))
            first = shows(PROGRAM, before, saying, paper)
            self.assertEqual((before, saying, paper), kept)
            self.assertIs(shows(PROGRAM, before, saying, paper), first)
        self.assertEqual([function for function in PROGRAM.functions()], list(FUNCTIONS))


if __name__ == "__main__":
    unittest.main()
