import copy
import itertools
import unittest

from samples import (ADD_GROUPED, ADD_NONE, FALSE_ONES, GLUE_END, GLUE_GROUPED, LENGTH_GLUE, MIRROR_TWICE, WELL_KNOWN,
                     PaperTest, ex, groves, lesser, row, say, shown, trail, trees)
from stairsay.errors import BadCount, BadKind, BadName, NoFunction, NoKind, NoMaker, NoName, SayError, Twice
from stairsay.papers import sided
from stairsay.programs import Program
from stairsay.stocks import Stock


class TestSided(unittest.TestCase):
    def setUp(self):
        self.program = Program(Stock(trees()), groves())

    def refused(self, refusal, names, left="none()", right="none()"):
        with self.subTest(names=names, left=left, right=right):
            with self.assertRaises(SayError) as caught:
                sided(self.program, (names, ex(left), ex(right)))
            self.assertIs(caught.exception.__class__, refusal)

    def test_kinds(self):
        for saying, kind in ((ADD_NONE, "num"), (GLUE_GROUPED, "line"), (LENGTH_GLUE, "num"), (MIRROR_TWICE, "tree")):
            self.assertEqual(sided(self.program, saying), kind)
        for saying in FALSE_ONES:
            self.assertIn(sided(self.program, saying), ("num", "line", "tree"))

    def test_no_names(self):
        self.assertEqual(sided(self.program, say("", "none()", "add(none(), none())")), "num")
        self.assertEqual(sided(self.program, say("", "end()", "end()")), "line")
        self.refused(NoName, (), "x", "none()")

    def test_names_that_stand_nowhere(self):
        self.assertEqual(sided(self.program, say("x num, a line, w wood", "x", "none()")), "num")

    def test_names(self):
        for name in ("", "X", "a" * 13, "x y", "x1"):
            self.refused(BadName, ((name, "num"),))
            self.refused(BadName, (("x", "num"), (name, "num")))
        self.refused(Twice, (("x", "num"), ("x", "num")))
        self.refused(Twice, (("x", "num"), ("y", "num"), ("x", "line")))
        for kind in ("", "nowhere", "Num", "none", "add", "x"):
            self.refused(NoKind, (("x", kind),))
            self.refused(NoKind, (("x", "num"), ("y", kind)))

    def test_pair_after_pair(self):
        self.refused(BadName, (("", "nowhere"),))
        self.refused(NoKind, (("x", "nowhere"), ("", "num")))
        self.refused(NoKind, (("x", "nowhere"), ("x", "num")))
        self.refused(Twice, (("x", "num"), ("x", "nowhere")))
        self.refused(Twice, (("x", "num"), ("x", "num"), ("", "num")))
        self.refused(BadName, (("x", "num"), ("Y", "num"), ("x", "num")))

    def test_names_ahead_of_sides(self):
        self.refused(BadName, (("", "num"),), "z", "z")
        self.refused(Twice, (("x", "num"), ("x", "num")), "z", "z")
        self.refused(NoKind, (("x", "nowhere"),), "z", "z")

    def test_left_then_right_then_both(self):
        names = (("x", "num"), ("a", "line"))
        for refusal, wrong in ((NoName, "z"), (BadCount, "next()"), (NoFunction, "unknown(x)"), (BadKind, "next(a)"),
                               (BadCount, "add(x)"), (NoName, "add(x, z)"), (BadKind, "put(a, z)")):
            self.refused(refusal, names, wrong, "x")
            self.refused(refusal, names, "x", wrong)
            self.refused(refusal, names, wrong, "add(z)")
            self.refused(refusal, names, "a", wrong)
        for wrong in ((("make", "nought", ()), ex("z")), (ex("x"), ("make", "nought", ()))):
            with self.assertRaises(NoMaker):
                sided(self.program, (names,) + wrong)
        self.refused(BadKind, names, "x", "a")
        self.refused(BadKind, names, "length(a)", "back(a)")
        self.refused(NoName, (("x", "num"),), "x", "a")

    def test_nothing_is_changed(self):
        saying = copy.deepcopy(ADD_GROUPED)
        sided(self.program, saying)
        self.assertEqual(saying, ADD_GROUPED)


class TestWellKnown(PaperTest):
    def test_each_is_shown(self):
        before = []
        for saying, paper in WELL_KNOWN:
            self.good(saying, paper, before)
            before.append(saying)

    def test_none_is_shown_by_the_paper_of_another(self):
        before = [saying for saying, paper in WELL_KNOWN]
        for saying, paper in WELL_KNOWN:
            for other in before + list(FALSE_ONES):
                if other != saying:
                    self.bad(other, paper, before)

    def test_none_without_those_shown_before(self):
        for saying, paper in WELL_KNOWN:
            if "'shown'" in repr(paper):
                self.bad(saying, paper)
            else:
                self.good(saying, paper)

    def test_none_with_a_step_left_out_twice_or_turned(self):
        before = [saying for saying, paper in WELL_KNOWN]
        for saying, (form, name, branches) in WELL_KNOWN:
            for k, (names, (steps_form, all_steps)) in enumerate(branches):
                for j, (place, ground, back, put_ins) in enumerate(all_steps):
                    turned = (place, ground, not back, put_ins)
                    for other in ((), (all_steps[j],) * 2, (turned,)):
                        branch = (names, ("steps", all_steps[:j] + other + all_steps[j + 1:]))
                        self.bad(saying, (form, name, branches[:k] + (branch,) + branches[k + 1:]), before)

    def test_none_by_splitting_in_the_place_of_climbing(self):
        before = [saying for saying, paper in WELL_KNOWN]
        for saying, paper in WELL_KNOWN:
            self.bad(saying, ("split",) + paper[1:], before)


class TestSteps(PaperTest):
    def test_no_step(self):
        for names, side in (("x num", "x"), ("", "none()"), ("x num, y num", "add(x, next(y))")):
            self.good(say(names, side, side), trail())
        self.bad(say("x num, y num", "x", "y"), trail())
        self.bad(say("x num", "add(none(), x)", "x"), trail())
        self.bad(say("", "none()", "next(none())"), trail())

    def test_rows_forth_and_back(self):
        saying = say("x num", "next(add(none(), x))", "next(x)")
        turned = say("x num", "next(x)", "next(add(none(), x))")
        self.good(saying, trail(row("add", "none", (0,), y="x")))
        self.good(turned, trail(row("add", "none", (0,), True, y="x")))
        self.bad(saying, trail(row("add", "none", (0,), True, y="x")))
        self.bad(turned, trail(row("add", "none", (0,), y="x")))
        self.bad(saying, trail(row("add", "none", y="x")))
        self.bad(saying, trail(row("add", "none", (0,), y="none()")))

    def test_rows_with_parts_and_others(self):
        saying = say("x num, a line, b line", "glue(put(x, a), b)", "put(x, glue(a, b))")
        self.good(saying, trail(row("glue", "put", h="x", t="a", b="b")))
        self.bad(saying, trail(row("glue", "put", h="x", t="b", b="a")))
        self.bad(saying, trail(row("glue", "end", b="b")))
        self.bad(saying, trail(row("turn", "put", h="x", t="a", b="b")))
        choosing = say("x num, s tree, t tree", "choose(next(x), s, t)", "t")
        self.good(choosing, trail(row("choose", "next", m="x", s="s", t="t")))
        self.bad(choosing, trail(row("choose", "next", m="x", s="t", t="s")))
        # All at once: the names that are put in are called like those that they are put in for.
        crossed = say("x num, s tree, t tree", "choose(next(x), t, s)", "s")
        self.good(crossed, trail(row("choose", "next", m="x", s="t", t="s")))

    def test_the_last_step_comes_to_the_right_side(self):
        saying = say("x num", "add(next(none()), x)", "next(x)")
        first, second = row("add", "next", m="none()", y="x"), row("add", "none", (0,), y="x")
        self.good(saying, trail(first, second))
        self.bad(saying, trail(first))
        self.bad(saying, trail(second, first))
        self.bad(saying, trail(first, second, second))
        self.bad(say("x num", "add(next(none()), x)", "next(next(x))"), trail(first, second))
        third = row("add", "none", (0,), True, y="x")
        self.bad(saying, trail(first, second, third))
        self.good(saying, trail(first, second, third, second))

    def test_a_bad_step_on_the_way_to_the_right_side(self):
        for saying in (say("x num", "x", "x"), say("x num", "add(none(), x)", "add(none(), x)")):
            self.good(saying, trail())
            self.bad(saying, trail(row("add", "next", m="x", y="x")))
            self.bad(saying, trail(shown(0)))

    def test_places_that_are_not_there(self):
        saying = say("x num", "next(add(none(), x))", "next(x)")
        for place in ((), (1,), (-1,), (0, 0), (0, 1), (0, 2), (0, -2), (0, 0, 0), (0, 1, 0), (0, 1, 0, 0), (10 ** 20,),
                      (-10 ** 20,), (0,) * 500):
            self.bad(saying, trail(row("add", "none", place, y="x")))
        self.bad(say("x num", "x", "x"), trail(row("add", "none", (0,), y="x")))

    def test_grounds_that_are_not_there(self):
        saying = say("x num", "add(none(), x)", "x")
        self.good(saying, trail(row("add", "none", y="x")))
        for function, maker in (("unknown", "none"), ("add", "nought"), ("add", "end"), ("glue", "none"), ("", ""),
                                ("none", "add"), ("none", "none"), ("Add", "none"), ("add", ""), ("unknown", "nought")):
            self.bad(saying, trail(row(function, maker, y="x")))
            self.bad(saying, trail(row(function, maker)))
        for ground in (shown, lesser):
            for k in (-1, 0, 1, -2, 10 ** 20, -10 ** 20):
                self.bad(saying, trail(ground(k)))
                self.bad(saying, trail(ground(k, x="x")))

    def test_shown_sayings(self):
        saying = say("y num", "next(add(next(y), none()))", "next(next(y))")
        before = [ADD_GROUPED, ADD_NONE, GLUE_END]
        self.good(saying, trail(shown(1, (0,), x="next(y)")), before)
        for k in (-4, -3, -2, -1, 0, 2, 3, 10 ** 20, -10 ** 20):
            self.bad(saying, trail(shown(k, (0,), x="next(y)")), before)
            self.bad(saying, trail(shown(k, (0,), a="next(y)")), before)
        # Counted from the end, ADD_NONE would be the last.
        self.bad(saying, trail(shown(-1, (0,), x="next(y)")), [ADD_GROUPED, ADD_NONE])
        self.bad(saying, trail(shown(1, (0,), True, x="next(y)")), before)
        turned = (saying[0], saying[2], saying[1])
        self.good(turned, trail(shown(1, (0,), True, x="next(y)")), before)
        self.bad(turned, trail(shown(1, (0,), x="next(y)")), before)
        self.bad(turned, trail(lesser(1, (0,), True, x="next(y)")), before)

    def test_a_shown_saying_without_names(self):
        fact = say("", "add(none(), none())", "none()")
        self.good(say("", "next(add(none(), none()))", "next(none())"), trail(shown(0, (0,))), [fact])
        self.bad(say("", "next(add(none(), none()))", "next(none())"), trail(shown(0, (0,), x="none()")), [fact])

    def test_names_of_put_ins(self):
        saying = say("x num, y num, z num", "add(add(x, y), z)", "add(x, add(y, z))")
        before = [say("a num, b num, c num", "add(add(a, b), c)", "add(a, add(b, c))")]
        for order in itertools.permutations([("a", ex("x")), ("b", ex("y")), ("c", ex("z"))]):
            self.good(saying, trail(((), ("shown", 0), False, order)), before)
            others = (order[0], (order[0][0], ex("none()")), ("d", ex("x")), ("x", ex("x")), ("", ex("x")))
            wrong = [(), order[:1], order[:2]] + [order + (other,) for other in others]
            for put_ins in wrong + [order[:2] + (other,) for other in others]:
                self.bad(saying, trail(((), ("shown", 0), False, put_ins)), before)

    def test_a_name_twice_in_the_place_of_another(self):
        saying = say("x num", "add(next(x), x)", "next(add(x, x))")
        self.good(saying, trail(row("add", "next", m="x", y="x")))
        for first, second in (("m", "m"), ("y", "y")):
            self.bad(saying, trail(((), ("row", "add", "next"), False, ((first, ex("x")), (second, ex("x"))))))
        self.bad(saying, trail(((), ("row", "add", "next"), False, tuple((name, ex("x")) for name in ("m", "y", "y")))))

    def test_kinds_of_put_ins(self):
        # What is put in for z changes nothing of the sides, but is looked at.
        saying, before = say("x num, a line", "add(x, none())", "x"), [say("x num, z line", "add(x, none())", "x")]
        for text in ("a", "end()", "put(x, a)", "glue(back(a), a)", "turn(a, put(next(x), end()))"):
            self.good(saying, trail(shown(0, x="x", z=text)), before)
        for text in ("x", "none()", "length(a)", "leaf(x)", "z", "b", "unknown(a)", "put(x)", "put(x, a, a)", "glue(a)",
                     "put(a, a)", "put(x, put(x, b))", "glue(x, a)", "back()", "end(a)"):
            self.bad(saying, trail(shown(0, x="x", z=text)), before)
        for wrong in (("make", "nought", ()), ("call", "end", ()), ("make", "back", (ex("a"),)), ("name", "")):
            self.bad(saying, trail(((), ("shown", 0), False, (("x", ex("x")), ("z", wrong)))), before)
        self.bad(saying, trail(shown(0, x="x")), before)

    def test_kinds_of_put_ins_where_the_sides_would_fit(self):
        # Both sides are the name, so that anything of any kind would stand there.
        saying, before = say("x num, a line", "a", "a"), [say("x num", "x", "x")]
        self.good(say("x num, a line", "x", "x"), trail(shown(0, x="x")), before)
        self.bad(saying, trail(shown(0, x="a")), before)

    def test_a_place_within_what_was_put_in(self):
        saying = say("x num", "times(next(none()), add(none(), x))", "times(next(none()), x)")
        self.good(saying, trail(row("add", "none", (1,), y="x")))
        self.good(say("x num", "add(none(), add(none(), x))", "x"),
                  trail(row("add", "none", y="add(none(), x)"), row("add", "none", y="x")))
        self.good(say("x num", "add(none(), add(none(), x))", "x"),
                  trail(row("add", "none", (1,), y="x"), row("add", "none", y="x")))

    def test_a_hundred_steps(self):
        forth, back = row("add", "none", (0,), y="x"), row("add", "none", (0,), True, y="x")
        self.good(say("x num", "next(add(none(), x))", "next(add(none(), x))"), trail(*[forth, back] * 50))
        self.bad(say("x num", "next(add(none(), x))", "next(add(none(), x))"), trail(*[forth, back] * 49 + [forth]))

    def there_and_back(self, saying, before, forth):
        back = [(place, ground, True, put_ins) for place, ground, _, put_ins in reversed(forth)]
        self.good(saying, trail(*forth + back), before)
        self.bad(saying, trail(*forth + back[1:]), before)

    def test_deep_expressions(self):
        before = [say("x num", "x", "add(none(), x)")]
        forth = [shown(0, (1,) * k, x="x") for k in range(50)]
        self.there_and_back(say("x num", "x", "x"), before, forth)

    def test_great_expressions(self):
        text = "x"
        for k in range(7):
            text = f"times({text}, {text})"
        before = [say("x num", "x", "times(times(x, x), times(x, x))")]
        fours = list(itertools.product((0, 1), repeat=2))
        places = [()] + fours + [first + second for first in fours for second in fours]
        # 64 times 255 tuples in the end.
        forth = [shown(0, place, x=text) for place in places]
        self.there_and_back(say("x num", text, text), before, forth)


if __name__ == "__main__":
    unittest.main()
