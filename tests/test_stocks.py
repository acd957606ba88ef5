import copy
import random
import unittest

from samples import ALL_SAMPLES, lines, pairs, random_stock, rounds, single, steps, trees
from stairsay.errors import BadCount, BadName, Groundless, NoKind, NoMaker, SayError, Twice
from stairsay.names import is_name
from stairsay.stocks import Stock

NONE = [("none", ())]


def leaves(count, letter="m"):
    return [(letter + "abcdef"[k], ()) for k in range(count)]


def kinds_with_leaves(count):
    return [("kind" + "abcdef"[k], leaves(1, "qrstuv"[k])) for k in range(count)]


ONE_FAULT = (
    (BadCount, []),
    (BadCount, kinds_with_leaves(5)),
    (BadCount, kinds_with_leaves(6)),
    (BadName, [("", NONE)]),
    (BadName, [("Kind", NONE)]),
    (BadName, steps() + [("kind two", NONE)]),
    (Twice, [("kind", NONE), ("kind", [("other", ())])]),
    (Twice, steps() + [("kind", [("a", ())]), ("num", [("b", ())])]),
    (BadCount, [("kind", [])]),
    (BadCount, steps() + [("kind", [])]),
    (BadCount, [("kind", leaves(5))]),
    (BadCount, steps() + [("kind", leaves(5))]),
    (BadName, [("kind", [("", ())])]),
    (BadName, [("kind", [("none", ()), ("None", ())])]),
    (Twice, [("kind", [("none", ()), ("none", ())])]),
    (Twice, [("kind", [("none", ()), ("a", ()), ("none", ("kind",))])]),
    (Twice, steps() + [("kind", [("next", ())])]),
    (Twice, steps() + [("kind", [("a", ()), ("none", ())])]),
    (BadCount, [("kind", [("none", ()), ("a", ("kind", "kind", "kind"))])]),
    (BadCount, steps() + [("kind", [("a", ("num", "num", "num"))])]),
    (NoKind, [("kind", [("none", ()), ("a", ("other",))])]),
    (NoKind, [("kind", [("none", ()), ("a", ("kind", "other"))])]),
    (NoKind, [("kind", [("none", ("",))])]),
    (NoKind, [("kind", [("none", ()), ("a", ("none",))])]),
    (NoKind, [("kind", [("none", ()), ("a", ("Kind",))])]),
    (Groundless, [("kind", [("none", ("kind",))])]),
    (Groundless, [("kind", [("a", ("kind",)), ("none", ())])]),
    (Groundless, [("kind", [("none", ("later",))]), ("later", [("a", ())])]),
    (Groundless, steps() + [("kind", [("a", ("num", "kind"))])]),
    (Groundless, steps() + [("kind", [("a", ("kind", "num"))])]),
    (Groundless, steps() + [("kind", [("a", ("num", "later"))]), ("later", [("b", ())])]),
)

TWO_FAULTS = (
    # How many kinds there are comes ahead of what is wrong with any.
    (BadCount, [("Bad", NONE)] + kinds_with_leaves(4)),
    (BadCount, [("kind", [])] + [("kind", [])] * 4),
    # Within a kind: its name, whether it is new, how many makers.
    (BadName, [("Bad", [])]),
    (BadName, [("Bad", leaves(5))]),
    (BadName, [("Bad", NONE), ("Bad", [("a", ())])]),
    (Twice, steps() + [("num", [])]),
    (Twice, steps() + [("num", leaves(5))]),
    # Kind after kind.
    (BadCount, [("kind", []), ("Bad", NONE)]),
    (BadCount, [("kind", leaves(5)), ("kind", NONE)]),
    (Twice, [("kind", NONE), ("kind", [("a", ())]), ("Bad", [("b", ())])]),
    (BadName, [("Bad", NONE), ("kind", [])]),
    # All kinds are looked at ahead of the first maker.
    (BadName, [("kind", [("none", ("nowhere",))]), ("Bad", [("a", ())])]),
    (Twice, [("kind", [("None", ())]), ("kind", [("a", ())])]),
    (BadCount, [("kind", [("None", ())]), ("other", [])]),
    (BadCount, [("kind", [("none", ("kind",))]), ("other", leaves(5))]),
    # Within a maker: its name, whether it is new, how many parts, their kinds, the ground.
    (BadName, [("kind", [("None", ("kind", "kind", "kind"))])]),
    (BadName, [("kind", [("None", ("nowhere",))])]),
    (BadName, [("kind", [("None", ("kind",))])]),
    (BadName, [("kind", [("none", ()), ("None", ()), ("None", ())])]),
    (Twice, [("kind", [("none", ()), ("none", ("kind", "kind", "kind"))])]),
    (Twice, [("kind", [("none", ()), ("none", ("nowhere",))])]),
    (Twice, steps() + [("kind", [("none", ("kind",))])]),
    (BadCount, [("kind", [("none", ("nowhere", "kind", "kind"))])]),
    (BadCount, [("kind", [("none", ("kind", "kind", "kind"))])]),
    (NoKind, [("kind", [("none", ("kind", "nowhere"))])]),
    (NoKind, [("kind", [("none", ("nowhere", "kind"))])]),
    # Maker after maker, the ground of the first one ahead of the second one.
    (Groundless, [("kind", [("none", ("kind",)), ("None", ())])]),
    (Groundless, [("kind", [("none", ("kind",)), ("none", ())])]),
    (Groundless, [("kind", [("none", ("kind",)), ("a", ("nowhere",))])]),
    (NoKind, [("kind", [("none", ("nowhere",)), ("None", ())])]),
    (BadCount, [("kind", [("none", ()), ("a", ("kind", "kind", "kind")), ("None", ())])]),
    (Twice, [("kind", [("none", ()), ("none", ()), ("None", ())])]),
    # Kind after kind.
    (NoKind, [("kind", [("none", ()), ("a", ("nowhere",))]), ("other", [("Bad", ())])]),
    (Groundless, [("kind", [("none", ("other",))]), ("other", [("none", ())])]),
    (Groundless, [("kind", [("none", ("other",))]), ("other", [("Bad", ())])]),
    (BadName, [("kind", [("none", ()), ("Bad", ())]), ("other", [("a", ("other",))])]),
)


# Another way to the same answer: all faults with their ranks, of which the least one is raised.
def faults(kinds):
    names = [kind for kind, makers in kinds]
    found = [((0,), BadCount)] if len(kinds) not in (1, 2, 3, 4) else []
    makers_ahead = []
    for k, (kind, makers) in enumerate(kinds):
        found += [((1, k, 0), BadName)] if not is_name(kind) else []
        found += [((1, k, 1), Twice)] if kind in names[:k] else []
        found += [((1, k, 2), BadCount)] if len(makers) not in (1, 2, 3, 4) else []
        for m, (maker, parts) in enumerate(makers):
            found += [((2, k, m, 0), BadName)] if not is_name(maker) else []
            found += [((2, k, m, 1), Twice)] if maker in makers_ahead else []
            found += [((2, k, m, 2), BadCount)] if len(parts) > 2 else []
            found += [((2, k, m, 3), NoKind)] if set(parts) - set(names) else []
            found += [((2, k, m, 4), Groundless)] if m == 0 and set(parts) - set(names[:k]) else []
            makers_ahead.append(maker)
    return sorted(found, key=lambda fault: fault[0])


def spoiled(seed):
    dice = random.Random(seed)
    kinds = random_stock(seed)
    for turn in range(dice.randint(0, 4)):
        k = dice.randrange(len(kinds))
        kind, makers = kinds[k]
        names = [name for name, others in kinds]
        all_makers = [maker for name, others in kinds for maker, parts in others] or ["lost"]
        m = dice.randrange(len(makers)) if makers else None
        what = dice.randrange(9)
        if what == 0:
            kinds[k] = (dice.choice(["", "Bad", "abcdefghijklm"]), makers)
        elif what == 1:
            kinds[k] = (dice.choice(names), makers)
        elif what == 2:
            kinds[k] = (kind, dice.choice([[], makers + leaves(4, "x")]))
        elif what == 3:
            kinds = kinds + kinds_with_leaves(dice.randint(1, 3))
        elif m is not None:
            maker, parts = makers[m]
            makers[m] = ((dice.choice(["", "a b", "Bad"]), parts), (dice.choice(all_makers), parts),
                         (maker, (parts + (kind, kind, kind))[:3]), (maker, (parts + ("lost",))[-2:]),
                         (maker, (dice.choice(names),)))[what - 4]
    return kinds


class TestRefusals(unittest.TestCase):
    def check(self, kinds, refusal):
        before = copy.deepcopy(kinds)
        with self.subTest(kinds):
            with self.assertRaises(SayError) as raised:
                Stock(kinds)
            self.assertIs(raised.exception.__class__, refusal)
            self.assertEqual(kinds, before)

    def test_each_refusal_by_itself(self):
        for refusal, kinds in ONE_FAULT:
            self.check(kinds, refusal)

    def test_the_order_told_decides(self):
        for refusal, kinds in TWO_FAULTS:
            self.check(kinds, refusal)

    def test_spoiled_stocks_against_all_their_faults(self):
        seen = set()
        for seed in range(4000):
            kinds = spoiled(seed)
            found = faults(kinds)
            if found:
                self.check(kinds, found[0][1])
                seen.add((found[0][0][0], found[0][1].__name__))
            else:
                Stock(kinds)
                seen.add("none")
        self.assertEqual(len(seen), 10)

    def test_counts_of_kinds(self):
        for count in range(1, 5):
            self.assertEqual(len(Stock(kinds_with_leaves(count)).kinds()), count)
        for count in (0, 5, 6):
            self.check(kinds_with_leaves(count), BadCount)

    def test_counts_of_makers(self):
        for count in range(1, 5):
            self.assertEqual(len(Stock([("kind", leaves(count))]).makers("kind")), count)
        for count in (0, 5, 6):
            self.check([("kind", leaves(count))], BadCount)

    def test_counts_of_parts(self):
        for count in range(3):
            stock = Stock([("kind", NONE + [("more", ("kind",) * count)])])
            self.assertEqual(stock.parts("more"), ("kind",) * count)
        for count in (3, 4):
            self.check([("kind", NONE + [("more", ("kind",) * count)])], BadCount)

    def test_a_maker_may_be_called_like_a_kind(self):
        stock = Stock([("kind", [("kind", ()), ("other", ("kind", "other"))]), ("other", [("last", ("kind",))])])
        self.assertEqual(stock.makers("kind"), ["kind", "other"])
        self.assertEqual(stock.home("other"), "kind")
        self.assertEqual(stock.parts("other"), ("kind", "other"))
        self.assertEqual(stock.makers("other"), ["last"])

    def test_ground_is_asked_of_the_first_maker_alone(self):
        for parts in (("kind",), ("later",), ("num", "kind"), ("later", "num"), ("kind", "kind"), ("later", "kind")):
            self.check(steps() + [("kind", [("a", parts)]), ("later", [("b", ())])], Groundless)
            stock = Stock(steps() + [("kind", [("a", ()), ("c", parts)]), ("later", [("b", ())])])
            self.assertEqual(stock.parts("c"), parts)

    def test_a_first_maker_may_have_parts_of_kinds_above(self):
        stock = Stock(lines() + [("kind", [("a", ("num", "line"))]), ("top", [("b", ("kind", "num"))])])
        self.assertEqual((stock.parts("a"), stock.parts("b")), (("num", "line"), ("kind", "num")))


class TestTelling(unittest.TestCase):
    def test_all_of_each_sample(self):
        for kinds in [sample() for sample in ALL_SAMPLES] + [random_stock(seed) for seed in range(200)]:
            stock = Stock(kinds)
            self.assertEqual(stock.kinds(), [kind for kind, makers in kinds])
            for kind, makers in kinds:
                self.assertEqual(stock.makers(kind), [maker for maker, parts in makers])
                for maker, parts in makers:
                    self.assertEqual(stock.parts(maker), parts)
                    self.assertEqual(stock.home(maker), kind)

    def test_written_out(self):
        stock = Stock(trees())
        self.assertEqual(stock.kinds(), ["num", "line", "tree", "wood"])
        self.assertEqual(stock.makers("tree"), ["leaf", "fork", "bag"])
        self.assertEqual(stock.parts("none"), ())
        self.assertEqual(stock.parts("put"), ("num", "line"))
        self.assertEqual(stock.home("bag"), "tree")
        self.assertEqual(Stock(single()).kinds(), ["one"])
        self.assertEqual(Stock(pairs()).kinds(), ["sign", "pair", "nest"])
        self.assertEqual(Stock(rounds()).makers("late"), ["base", "deep", "plain"])

    def test_kinds_of_what_is_told(self):
        stock = Stock(trees())
        self.assertIs(stock.kinds().__class__, list)
        self.assertIs(stock.makers("num").__class__, list)
        self.assertIs(stock.parts("put").__class__, tuple)
        self.assertIs(stock.parts("none").__class__, tuple)
        self.assertIs(stock.home("put").__class__, str)

    def test_no_kind(self):
        stock = Stock(trees())
        for text in ("", "nowhere", "none", "put", "Num", "nu", "numm", " num", "num ", "0", "a" * 40):
            with self.subTest(text):
                with self.assertRaises(NoKind):
                    stock.makers(text)

    def test_no_maker(self):
        stock = Stock(trees())
        for text in ("", "nowhere", "num", "tree", "None", "non", "nonee", " none", "none ", "0", "a" * 40):
            with self.subTest(text):
                with self.assertRaises(NoMaker):
                    stock.parts(text)
                with self.assertRaises(NoMaker):
                    stock.home(text)

    def test_a_refused_question_changes_nothing(self):
        stock = Stock(lines())
        for ask in (stock.makers, stock.parts, stock.home):
            with self.assertRaises(SayError):
                ask("nowhere")
            with self.assertRaises(SayError):
                ask("nowhere")
        self.assertEqual(told(stock), told(Stock(lines())))


def told(stock):
    kinds = stock.kinds()
    makers = [(kind, stock.makers(kind)) for kind in kinds]
    return kinds, makers, [(maker, stock.parts(maker), stock.home(maker)) for kind, row in makers for maker in row]


class TestOwning(unittest.TestCase):
    def test_what_is_handed_in_stays_as_it_was(self):
        for sample in ALL_SAMPLES:
            kinds = sample()
            stock = Stock(kinds)
            told(stock)
            self.assertEqual(kinds, sample())

    def test_changing_what_was_handed_in_changes_no_stock(self):
        kinds = trees()
        stock = Stock(kinds)
        beside = Stock(kinds)
        kinds[0][1].append(("late", ()))
        kinds[1][1][1] = ("put", ())
        kinds[2][1].clear()
        kinds.reverse()
        kinds.append(("extra", [("more", ())]))
        self.assertEqual(told(stock), told(Stock(trees())))
        self.assertEqual(told(beside), told(Stock(trees())))
        kinds.clear()
        self.assertEqual(told(stock), told(Stock(trees())))

    def test_changing_what_was_told_changes_no_stock(self):
        kinds = trees()
        stock = Stock(kinds)
        beside = Stock(kinds)
        stock.kinds().clear()
        stock.kinds().append("extra")
        stock.makers("num").append("late")
        stock.makers("tree").reverse()
        stock.makers("line").clear()
        self.assertEqual(told(stock), told(Stock(trees())))
        self.assertEqual(told(beside), told(Stock(trees())))
        self.assertEqual(kinds, trees())

    def test_what_was_told_stays_as_it_was(self):
        stock = Stock(trees())
        kinds, makers = stock.kinds(), stock.makers("tree")
        stock.kinds().clear()
        stock.makers("tree").clear()
        Stock(rounds())
        self.assertEqual(kinds, ["num", "line", "tree", "wood"])
        self.assertEqual(makers, ["leaf", "fork", "bag"])

    def test_stocks_beside_one_another_keep_their_own(self):
        stock, beside = Stock(steps()), Stock([("num", [("nought", ()), ("more", ("num", "num"))])])
        self.assertEqual(stock.makers("num"), ["none", "next"])
        self.assertEqual(beside.makers("num"), ["nought", "more"])
        with self.assertRaises(NoMaker):
            stock.parts("more")
        with self.assertRaises(NoMaker):
            beside.home("next")


if __name__ == "__main__":
    unittest.main()
