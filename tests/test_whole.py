"""The last sentence of point 20, over the whole program: what papers show holds, and nothing speaks against it."""

import random
import unittest

from samples import FALSE_ONES, WELL_KNOWN, places_of, random_expression, random_functions, random_stock
from stairsay.against import against
from stairsay.books import Book
from stairsay.errors import NotShown, TooLong
from stairsay.finder import found, plain
from stairsay.papers import shows, sided
from stairsay.places import filled, matched, part_at, put_at
from stairsay.programs import Program, kind_of
from stairsay.runs import run
from stairsay.stocks import Stock
from stairsay.texts import read_as, shown_as
from stairsay.things import things
from test_random_papers import BEFORE, HEADS, KINDS, PROGRAM, other_paper


# The sides of the ground and its names with their kinds, told by the functions themselves.
def rows_of(kinds, functions):
    told = []
    for name, arguments, kind, others, rows in functions:
        for (maker, parts), (names, body) in zip(dict(kinds)[arguments[0]], rows):
            made = ("make", maker, tuple(("name", each) for each in names))
            call = ("call", name, (made,) + tuple(("name", each) for each in others))
            told.append((("row", name, maker), dict(zip(names + others, parts + arguments[1:])), call, body))
    return told


# Steps drawn one after the other from the left side, and what they come to.
def walk(dice, program, kinds, grounds, names, left, count):
    heads = {function: program.kinds_of(function) for function in program.functions()}
    expression, steps = left, []
    for attempt in range(count * 20):
        ground, kinds_by_name, first, second = dice.choice(grounds)
        back = dice.random() < 0.4
        one, other = (second, first) if back else (first, second)
        place = dice.choice(places_of(expression))
        put_ins = matched(one, part_at(expression, place))
        if put_ins is None or (one[0] == "name" and dice.random() < 0.8):
            continue
        for name, kind in kinds_by_name.items():
            if name not in put_ins:
                put_ins[name] = random_expression(dice, kinds, heads, names, kind, 1)
        # A side that is a name alone stands wherever something of its kind does.
        if any(kind_of(program, names, put_ins[name]) != kind for name, kind in kinds_by_name.items()):
            continue
        made = put_at(expression, place, filled(other, put_ins))
        if len(places_of(made)) <= 60 and len(steps) < count:
            steps.append((place, ground, back, tuple(put_ins.items())))
            expression = made
    return expression, tuple(steps)


class TestWhole(unittest.TestCase):
    # Nothing speaks against a saying that is shown, also where the runs are called one by one.
    def holds(self, program, saying, dice):
        with self.subTest(saying=saying):
            self.assertIsNone(against(program, saying, 3, 200))
            names, left, right = saying
            pools = {name: things(program.stock, kind, 25) for name, kind in names}
            if not all(pools.values()):
                return
            for draw in range(6):
                setting = {name: dice.choice(pool) for name, pool in pools.items()}
                try:
                    one, other = [run(program, setting, side, 500) for side in (left, right)]
                except TooLong:
                    continue
                self.assertEqual(one, other)

    def test_well_known_sayings(self):
        dice = random.Random(30)
        for saying in BEFORE:
            self.holds(PROGRAM, saying, dice)

    def test_found_papers_and_ones_changed_at_a_place(self):
        dice = random.Random(31)
        papers, kept = 0, 0
        for k in range(300):
            names = {name: dice.choice(("num", "line", "tree")) for name in dice.sample("xyzabt", 2)}
            kind = dice.choice(("num", "line", "tree"))
            left, right = [random_expression(dice, KINDS, HEADS, names, kind, dice.randint(1, 2)) for side in "lr"]
            saying = (tuple(names.items()), left, dice.choice((right, right, plain(PROGRAM, left)[0])))
            paper = found(PROGRAM, BEFORE, saying)
            if paper is None:
                continue
            papers += 1
            self.holds(PROGRAM, saying, dice)
            for change in range(10):
                other = self.changed_saying(dice, names, saying)
                other_one = dice.choice((paper, other_paper(dice, paper)))
                if shows(PROGRAM, BEFORE, other, other_one):
                    kept += 1
                    self.holds(PROGRAM, other, dice)
        self.assertGreater(papers, 60)
        self.assertGreater(kept, 10)

    # Another part of the same kind at some place of both sides or one.
    def changed_saying(self, dice, names, saying):
        sides = list(saying[1:])
        for k in dice.choice(((0,), (1,), (0, 1))):
            place = dice.choice(places_of(sides[k]))
            kind = kind_of(PROGRAM, names, part_at(sides[k], place))
            sides[k] = put_at(sides[k], place, random_expression(dice, KINDS, HEADS, names, kind, 1))
        other = (saying[0], sides[0], sides[1])
        sided(PROGRAM, other)
        return other

    def test_no_paper_shows_what_something_speaks_against(self):
        dice = random.Random(32)
        for saying in FALSE_ONES:
            self.assertIsNotNone(against(PROGRAM, saying, 12, 500))
        papers = [paper for saying, paper in WELL_KNOWN] + [found(PROGRAM, BEFORE, saying) for saying in BEFORE]
        for k in range(3000):
            saying, paper = dice.choice(FALSE_ONES), dice.choice(papers)
            for change in range(dice.randint(0, 3)):
                paper = other_paper(dice, paper)
            self.assertIs(shows(PROGRAM, BEFORE, saying, paper), False)

    def test_books_of_programs_drawn_at_random(self):
        dice = random.Random(33)
        entered, climbed = 0, 0
        for seed in range(80):
            kinds = random_stock(seed)
            functions = random_functions(seed, kinds, 4)
            program = Program(Stock(kinds), functions)
            heads = {function: program.kinds_of(function) for function in program.functions()}
            book = Book(program)
            for k in range(6):
                names = {name: dice.choice(kinds)[0] for name in "xyz"[:dice.randint(1, 3)]}
                left = random_expression(dice, kinds, heads, names, dice.choice(kinds)[0], dice.randint(1, 3))
                shown = [(("shown", j), dict(saying[0]), saying[1], saying[2])
                         for j, saying in enumerate(book.sayings())]
                right, steps = walk(dice, program, kinds, rows_of(kinds, functions) + shown * 5, names, left, 4)
                saying = (tuple(names.items()), left, right)
                book.enter(saying, ("steps", steps))
                entered += len(steps) > 1
                drawn = random_expression(dice, kinds, heads, names, kind_of(program, names, left), 1)
                paper = found(program, book.sayings(), (saying[0], left, drawn))
                if paper is not None:
                    book.enter((saying[0], left, drawn), paper)
                    climbed += paper[0] != "steps"
            for saying in book.sayings():
                self.holds(program, saying, dice)
        self.assertGreater(entered, 200)
        self.assertGreater(climbed, 5)

    def test_a_book_written_by_texts(self):
        book = Book(PROGRAM)

        def enter(names, left, right):
            saying = (names, read_as(PROGRAM.stock, left), read_as(PROGRAM.stock, right))
            paper = found(PROGRAM, book.sayings(), saying)
            if paper is None:
                raise NotShown("no paper was found")
            book.enter(saying, paper)

        x, y = (("x", "num"),), (("x", "num"), ("y", "num"))
        enter(x, "add(x, none())", "x")
        enter(y, "add(x, next(y))", "next(add(x, y))")
        enter(y, "add(x, y)", "add(y, x)")
        self.assertRaises(NotShown, enter, y, "add(x, y)", "x")
        self.assertEqual([shown_as(saying[1]) + " is " + shown_as(saying[2]) for saying in book.sayings()],
                         ["add(x, none()) is x", "add(x, next(y)) is next(add(x, y))", "add(x, y) is add(y, x)"])


if __name__ == "__main__":
    unittest.main()
