import unittest

from samples import (ALL_SAMPLES, END, NONE, line, lines, number, pairs, random_stock, rounds, signs, single, steps,
                     towers, trees, wide)
from stairsay.errors import NoKind
from stairsay.stocks import Stock
from stairsay.things import is_thing, least, size, things

STONE = ("stone", ())


def full_tree(deep):
    return ("leaf", (NONE,)) if deep == 0 else ("fork", (full_tree(deep - 1), full_tree(deep - 1)))


# Each thing is its makers written from the outside inwards; words that can't end within the bound are dropped.
def words(kinds, kind, most):
    makers_of = dict(kinds)
    found = []

    def grow(made, waiting):
        if len(made) + len(waiting) > most:
            return
        if not waiting:
            found.append(made)
            return
        for maker, parts in makers_of[waiting[0]]:
            grow(made + (maker,), parts + waiting[1:])

    grow((), (kind,))
    return found


def read_word(kinds, word):
    arity = {maker: len(parts) for kind, makers in kinds for maker, parts in makers}
    pile = []
    for maker in reversed(word):
        parts = tuple(pile.pop() for k in range(arity[maker]))
        pile.append((maker, parts))
    (thing,) = pile
    return thing


def rank(kinds, thing):
    places = {maker: k for kind, makers in kinds for k, (maker, parts) in enumerate(makers)}
    parts = tuple(rank(kinds, part) for part in thing[1])
    return 1 + sum(part[0] for part in parts), places[thing[0]], parts


def all_in_order(kinds, kind):
    found = [read_word(kinds, word) for word in words(kinds, kind, 7)]
    return sorted(found, key=lambda thing: rank(kinds, thing))


# How many things of each size, by adding and multiplying alone.
def count_to_seven(kinds, kind):
    counts = {(name, whole): 0 for name, makers in kinds for whole in range(8)}
    for whole in range(1, 8):
        for name, makers in kinds:
            for maker, parts in makers:
                if len(parts) == 0:
                    counts[name, whole] += whole == 1
                elif len(parts) == 1:
                    counts[name, whole] += counts[parts[0], whole - 1]
                else:
                    counts[name, whole] += sum(counts[parts[0], k] * counts[parts[1], whole - 1 - k]
                                               for k in range(1, whole - 1))
    return sum(counts[kind, whole] for whole in range(8))


class TestIsThing(unittest.TestCase):
    def setUp(self):
        self.stock = Stock(trees())

    def check(self, kind, thing, answer):
        with self.subTest(kind=kind, thing=thing):
            self.assertIs(is_thing(self.stock, kind, thing), answer)

    def test_right_things(self):
        self.check("num", NONE, True)
        self.check("num", number(5), True)
        self.check("line", END, True)
        self.check("line", line(0, 2, 1), True)
        self.check("tree", ("bag", (("lone", (("leaf", (number(1),)), line(1))),)), True)
        self.check("wood", ("join", (("lone", (full_tree(1), END)), full_tree(2))), True)

    def test_wrong_makers(self):
        self.check("num", ("nought", ()), False)
        self.check("num", ("", ()), False)
        self.check("num", ("num", ()), False)
        self.check("num", ("nought", (NONE,)), False)

    def test_makers_of_other_kinds(self):
        self.check("num", END, False)
        self.check("line", NONE, False)
        self.check("wood", full_tree(1), False)
        self.check("tree", ("lone", (full_tree(0), END)), False)

    def test_too_few_and_too_many_parts(self):
        self.check("num", ("next", ()), False)
        self.check("num", ("next", (NONE, NONE)), False)
        self.check("num", ("none", (NONE,)), False)
        self.check("line", ("put", (NONE,)), False)
        self.check("line", ("put", ()), False)
        self.check("line", ("put", (NONE, END, END)), False)
        self.check("line", ("put", (NONE, END, NONE)), False)

    def test_parts_exchanged(self):
        self.check("line", ("put", (END, NONE)), False)
        self.check("line", ("put", (line(1), number(1))), False)
        self.check("wood", ("join", (full_tree(0), ("lone", (full_tree(0), END)))), False)

    def test_a_wrong_part(self):
        self.check("num", ("next", (END,)), False)
        self.check("line", ("put", (END, END)), False)
        self.check("line", ("put", (NONE, NONE)), False)

    def test_a_wrong_part_deep_within(self):
        for wrong in (END, ("nought", ()), ("next", ()), ("none", (NONE,)), ("next", (NONE, NONE))):
            thing = wrong
            for k in range(38):
                thing = ("next", (thing,))
            self.check("num", thing, False)
            thing = ("put", (wrong, END))
            for k in range(10):
                thing = ("put", (NONE, thing))
            self.check("line", thing, False)
            self.check("tree", ("fork", (full_tree(2), ("fork", (("leaf", (wrong,)), full_tree(1))))), False)
            self.check("tree", ("fork", (("fork", (("leaf", (wrong,)), full_tree(1))), full_tree(2))), False)

    def test_texts_that_are_no_kinds(self):
        for kind in ("", "nowhere", "none", "next", "Num", "num ", "a" * 30):
            self.check(kind, NONE, False)
            self.check(kind, ("nought", ()), False)

    def test_makers_called_like_kinds(self):
        self.stock = Stock([("a", [("b", ()), ("a", ("b",))]), ("b", [("c", ("a",))])])
        self.check("a", ("b", ()), True)
        self.check("b", ("b", ()), False)
        self.check("a", ("a", (("c", (("b", ()),)),)), True)
        self.check("a", ("a", (("b", ()),)), False)

    def test_great_and_deep_things(self):
        self.check("num", number(39), True)
        self.check("line", number(39), False)
        self.check("tree", full_tree(6), True)
        self.check("line", line(*[6] * 33), True)
        self.check("line", line(*[21] * 13), True)
        self.check("tree", ("fork", (full_tree(6), full_tree(5))), True)
        self.check("line", line(*[0] * 100), True)
        self.check("num", number(300), True)

    def test_all_small_things_of_all_kinds(self):
        for sample in ALL_SAMPLES:
            kinds = sample()
            self.stock = Stock(kinds)
            for kind, makers in kinds:
                for other in self.stock.kinds():
                    for thing in all_in_order(kinds, kind)[:40]:
                        self.check(other, thing, other == kind)

    def test_nothing_is_changed(self):
        stock = Stock(trees())
        is_thing(stock, "tree", full_tree(2))
        is_thing(stock, "nowhere", full_tree(2))
        is_thing(stock, "num", ("nought", ()))
        self.assertEqual(stock.kinds(), ["num", "line", "tree", "wood"])
        self.assertEqual(stock.makers("tree"), ["leaf", "fork", "bag"])


class TestSize(unittest.TestCase):
    def test_written_out(self):
        self.assertEqual(size(NONE), 1)
        self.assertEqual(size(number(1)), 2)
        self.assertEqual(size(line(0)), 3)
        self.assertEqual(size(line(2, 0, 1)), 10)
        self.assertEqual(size(("fork", (full_tree(0), full_tree(1)))), 8)

    def test_great_and_deep_things(self):
        self.assertEqual(size(number(39)), 40)
        self.assertEqual(size(full_tree(6)), 191)
        self.assertEqual(size(("fork", (full_tree(6), ("fork", (full_tree(5), full_tree(1)))))), 293)
        self.assertEqual(size(line(*[6] * 33)), 265)
        self.assertEqual(size(line(*[21] * 13)), 300)
        self.assertEqual(size(number(300)), 301)

    def test_all_small_things(self):
        for kind in ("num", "line", "tree", "wood"):
            for word in words(trees(), kind, 7):
                self.assertEqual(size(read_word(trees(), word)), len(word))


class TestLeast(unittest.TestCase):
    def test_first_makers_without_parts(self):
        stock = Stock(lines())
        self.assertEqual(least(stock, "num"), NONE)
        self.assertEqual(least(stock, "line"), END)
        self.assertEqual(least(Stock(single()), "one"), ("unit", ()))

    def test_first_makers_with_parts(self):
        stock = Stock(trees())
        self.assertEqual(least(stock, "tree"), ("leaf", (NONE,)))
        self.assertEqual(least(stock, "wood"), ("lone", (("leaf", (NONE,)), END)))
        self.assertEqual(least(Stock(rounds()), "late"), ("base", (("over", (("zero", ()),)),)))

    def test_towers(self):
        stock = Stock(towers())
        first = ("lift", (STONE, STONE))
        second = ("raise", (first, first))
        self.assertEqual(least(stock, "first"), first)
        self.assertEqual(least(stock, "second"), second)
        self.assertEqual(least(stock, "third"), ("crown", (second, second)))

    def test_each_least_thing_is_one_of_first_makers(self):
        for kinds in [sample() for sample in ALL_SAMPLES] + [random_stock(seed) for seed in range(100)]:
            stock = Stock(kinds)
            first_ones = [makers[0][0] for kind, makers in kinds]
            for kind in stock.kinds():
                thing = least(stock, kind)
                self.assertIs(is_thing(stock, kind, thing), True)
                layer = [thing]
                while layer:
                    self.assertLessEqual({maker for maker, parts in layer}, set(first_ones))
                    layer = [part for maker, parts in layer for part in parts]

    def test_no_kind(self):
        for kind in ("", "nowhere", "none", "Num"):
            with self.assertRaises(NoKind):
                least(Stock(lines()), kind)


class TestThings(unittest.TestCase):
    def test_written_out(self):
        stock = Stock(lines())
        self.assertEqual(things(stock, "num", 1), [NONE])
        self.assertEqual(things(stock, "num", 3), [NONE, number(1), number(2)])
        self.assertEqual(things(stock, "line", 8),
                         [line(), line(0), line(1), line(0, 0), line(2), line(0, 1), line(1, 0), line(3)])

    def test_size_then_maker_then_first_part_that_differs(self):
        stock = Stock(wide())
        tip = ("tip", ())
        red, blue = ("red", (tip,)), ("blue", (tip,))
        self.assertEqual(things(stock, "many", 12), [
            tip, red, blue,
            ("red", (red,)), ("red", (blue,)), ("green", (tip, tip)), ("blue", (red,)), ("blue", (blue,)),
            ("red", (("red", (red,)),)), ("red", (("red", (blue,)),)), ("red", (("green", (tip, tip)),)),
            ("red", (("blue", (red,)),))])
        found = things(stock, "many", 60)
        forks = [thing for thing in found if thing[0] == "green" and size(thing) == 4]
        self.assertEqual(forks, [("green", (tip, red)), ("green", (tip, blue)),
                                 ("green", (red, tip)), ("green", (blue, tip))])

    def test_fewer_than_asked_for(self):
        self.assertEqual(things(Stock(single()), "one", 60), [("unit", ())])
        self.assertEqual(things(Stock(signs()), "sign", 60),
                         [("yes", ()), ("no", ()), ("maybe", ()), ("never", ())])
        self.assertEqual(things(Stock(signs()), "sign", 3), [("yes", ()), ("no", ()), ("maybe", ())])
        self.assertEqual(things(Stock(steps()), "num", 60), [number(k) for k in range(7)])
        self.assertEqual(len(things(Stock(pairs()), "pair", 60)), 16)
        self.assertEqual(things(Stock(pairs()), "pair", 2),
                         [("both", (("yes", ()), ("yes", ()))), ("both", (("yes", ()), ("no", ())))])

    def test_size_seven_is_the_bound(self):
        stock = Stock(towers())
        self.assertEqual(things(stock, "second", 60), [least(stock, "second")])
        self.assertEqual(size(least(stock, "second")), 7)
        self.assertEqual(things(stock, "third", 60), [])
        self.assertEqual(max(size(thing) for thing in things(Stock(steps()), "num", 60)), 7)

    def check_all(self, kinds):
        stock = Stock(kinds)
        for kind in stock.kinds():
            wanted = all_in_order(kinds, kind)
            self.assertEqual(len(wanted), count_to_seven(kinds, kind))
            for most in range(1, 61):
                with self.subTest(kinds=kinds, kind=kind, most=most):
                    found = things(stock, kind, most)
                    self.assertEqual(len(found), min(most, len(wanted)))
                    self.assertEqual(found, wanted[:most])

    def test_samples_against_all_things(self):
        for sample in ALL_SAMPLES:
            self.check_all(sample())

    def test_random_stocks_against_all_things(self):
        for seed in range(60):
            self.check_all(random_stock(seed))

    def test_what_is_told_is_a_list_of_things(self):
        stock = Stock(rounds())
        for kind in stock.kinds():
            found = things(stock, kind, 60)
            self.assertIs(found.__class__, list)
            for thing in found:
                self.assertIs(is_thing(stock, kind, thing), True)

    def test_no_kind(self):
        for kind in ("", "nowhere", "none", "Num"):
            for most in (1, 60):
                with self.assertRaises(NoKind):
                    things(Stock(lines()), kind, most)

    def test_what_was_told_is_the_askers_own(self):
        stock = Stock(lines())
        first = things(stock, "num", 5)
        first.clear()
        second = things(stock, "num", 5)
        self.assertEqual(second, [number(k) for k in range(5)])
        things(stock, "num", 60)
        things(stock, "line", 60)
        self.assertEqual(second, [number(k) for k in range(5)])
        self.assertEqual(stock.kinds(), ["num", "line"])


if __name__ == "__main__":
    unittest.main()
