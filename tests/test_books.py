"""Point 24: books."""

import unittest

from samples import (ADD_GROUPED, ADD_GROUPED_PAPER, ADD_NEXT, ADD_NEXT_PAPER, ADD_NONE, ADD_NONE_PAPER, ADD_TURNED,
                     FALSE_ONES, WELL_KNOWN, ex, groves, say, shown, trail, trees)
from stairsay.against import against
from stairsay.books import Book
from stairsay.errors import (BadCount, BadKind, BadName, NoFunction, NoKind, NoMaker, NoName, NoSaying, NotShown,
                             SayError, Twice)
from stairsay.programs import Program
from stairsay.stocks import Stock

NUM = (("x", "num"),)
NOTHING = trail()
# By sayings 0 and 1: add(x, none()) is x, add(x, next(y)) is next(add(x, y)).
ADD_TURNED_PAPER = WELL_KNOWN[2][1]


class TestBooks(unittest.TestCase):
    def setUp(self):
        self.program = Program(Stock(trees()), groves())
        self.book = Book(self.program)

    def refused(self, error, saying, paper):
        before = self.book.sayings()
        reasons = [self.book.reason(k) for k in range(len(before))]
        with self.subTest(saying=saying, paper=paper):
            with self.assertRaises(SayError) as caught:
                self.book.enter(saying, paper)
            self.assertIs(caught.exception.__class__, error)
            self.assertEqual(self.book.sayings(), before)
            self.assertEqual([self.book.reason(k) for k in range(len(before))], reasons)
            self.assertRaises(NoSaying, self.book.reason, len(before))

    def test_a_book_without_sayings(self):
        self.assertEqual(self.book.sayings(), [])
        self.assertIs(self.book.program, self.program)
        for k in (0, 1, -1, 10 ** 20):
            self.assertRaises(NoSaying, self.book.reason, k)

    def test_entered_in_order(self):
        for k, (saying, paper) in enumerate(WELL_KNOWN):
            self.assertIsNone(self.book.enter(saying, paper))
            self.assertEqual(self.book.sayings(), [each for each, reason in WELL_KNOWN[:k + 1]])
            self.assertEqual(self.book.reason(k), paper)
        for k, (saying, paper) in enumerate(WELL_KNOWN):
            self.assertEqual(self.book.reason(k), paper)

    def test_one_saying_twice(self):
        self.book.enter(ADD_NONE, ADD_NONE_PAPER)
        again = trail(shown(0, x="x"))
        self.book.enter(ADD_NONE, again)
        self.assertEqual(self.book.sayings(), [ADD_NONE, ADD_NONE])
        self.assertEqual([self.book.reason(0), self.book.reason(1)], [ADD_NONE_PAPER, again])

    def test_a_saying_needs_one_entered_before(self):
        self.refused(NotShown, ADD_TURNED, ADD_TURNED_PAPER)
        self.book.enter(ADD_NONE, ADD_NONE_PAPER)
        self.refused(NotShown, ADD_TURNED, ADD_TURNED_PAPER)
        self.book.enter(ADD_NEXT, ADD_NEXT_PAPER)
        self.book.enter(ADD_TURNED, ADD_TURNED_PAPER)
        self.assertEqual(self.book.sayings(), [ADD_NONE, ADD_NEXT, ADD_TURNED])

    def test_numbers_are_those_of_the_book(self):
        self.book.enter(ADD_NEXT, ADD_NEXT_PAPER)
        self.book.enter(ADD_NONE, ADD_NONE_PAPER)
        # The same sayings, each under the other's number.
        self.refused(NotShown, ADD_TURNED, ADD_TURNED_PAPER)
        saying = say("y num", "add(add(y, none()), none())", "y")
        for k in (0, 2, 3, -1, -2, 10 ** 20):
            self.refused(NotShown, saying, trail(shown(k, x="add(y, none())"), shown(k, x="y")))
        self.book.enter(saying, trail(shown(1, x="add(y, none())"), shown(1, x="y")))
        self.assertEqual(self.book.sayings(), [ADD_NEXT, ADD_NONE, saying])

    def test_a_saying_is_no_reason_for_itself(self):
        for saying in FALSE_ONES:
            self.refused(NotShown, saying, trail(shown(0, **{name: name for name, kind in saying[0]})))
        self.refused(NotShown, ADD_NONE, trail(shown(0, x="x")))

    def test_refused_as_sided(self):
        self.book.enter(ADD_NONE, ADD_NONE_PAPER)
        for error, names, left, right in (
                (BadName, (("X", "num"),), "x", "x"), (BadName, (("", "num"),), "x", "x"),
                (BadName, (("abcdefghijklm", "num"),), "x", "x"), (Twice, NUM + NUM, "x", "x"),
                (NoKind, (("x", "number"),), "x", "x"), (NoName, NUM, "y", "x"), (NoName, NUM, "x", "y"),
                (NoFunction, NUM, "unknown(x)", "x"), (NoFunction, NUM, "x", "unknown(x)"),
                (BadCount, NUM, "add(x)", "x"), (BadCount, NUM, "x", "next(x, x)"),
                (BadKind, NUM, "length(x)", "x"), (BadKind, NUM, "x", "put(x, x)"), (BadKind, NUM, "x", "end()")):
            for paper in (NOTHING, ADD_NONE_PAPER):
                self.refused(error, (names, ex(left), ex(right)), paper)
        self.refused(NoMaker, (NUM, ("make", "unknown", ()), ex("x")), NOTHING)

    def test_refused_as_sided_ahead_of_not_shown(self):
        self.refused(BadKind, say("x num", "x", "end()"), trail(shown(5)))
        self.refused(BadName, ((("X", "num"),), ex("x"), ex("y")), trail(shown(5)))

    def test_not_shown(self):
        self.refused(NotShown, ADD_NONE, NOTHING)
        self.refused(NotShown, ADD_NONE, ADD_NEXT_PAPER)
        self.book.enter(ADD_NONE, ADD_NONE_PAPER)
        self.refused(NotShown, ADD_GROUPED, NOTHING)
        self.refused(NotShown, ADD_GROUPED, ADD_NONE_PAPER)
        for saying in FALSE_ONES:
            for each, paper in WELL_KNOWN:
                self.refused(NotShown, saying, paper)
        self.book.enter(ADD_GROUPED, ADD_GROUPED_PAPER)
        self.assertEqual(self.book.sayings(), [ADD_NONE, ADD_GROUPED])

    def test_no_saying(self):
        for saying, paper in WELL_KNOWN[:3]:
            self.book.enter(saying, paper)
        for k in (-1, -2, -3, -4, -10 ** 20, 3, 4, 100, 10 ** 20):
            self.assertRaises(NoSaying, self.book.reason, k)
        self.assertEqual([self.book.reason(k) for k in range(3)], [paper for saying, paper in WELL_KNOWN[:3]])

    def test_what_is_told_is_the_askers_own(self):
        self.book.enter(ADD_NONE, ADD_NONE_PAPER)
        told = self.book.sayings()
        told.append(FALSE_ONES[0])
        self.assertEqual(self.book.sayings(), [ADD_NONE])
        self.refused(NotShown, FALSE_ONES[0], trail(shown(1, x="x")))
        told.clear()
        self.assertEqual(self.book.sayings(), [ADD_NONE])
        kept = self.book.sayings()
        self.book.enter(ADD_NEXT, ADD_NEXT_PAPER)
        self.assertEqual(kept, [ADD_NONE])

    def test_two_books_keep_sayings_of_their_own(self):
        other = Book(self.program)
        self.book.enter(ADD_NONE, ADD_NONE_PAPER)
        self.assertEqual(other.sayings(), [])
        self.assertRaises(NotShown, other.enter, ADD_NONE, trail(shown(0, x="x")))

    def test_what_a_book_tells_holds(self):
        for saying, paper in WELL_KNOWN:
            self.book.enter(saying, paper)
        for saying in self.book.sayings():
            self.assertIsNone(against(self.program, saying, 6, 500))


if __name__ == "__main__":
    unittest.main()
