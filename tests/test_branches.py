import unittest

from samples import (ADD_NONE, ADD_NONE_PAPER, ADD_TURNED, FALSE_ONES, MIRROR_BAG, MIRROR_LEAF, MIRROR_TWICE, PaperTest,
                     climb, ex, lesser, row, say, shown, signs, split, step, trail, turns)
from stairsay.papers import shows
from stairsay.programs import Program
from stairsay.stocks import Stock


# Branches without a step, each with as many fresh names as told.
def idle(letter, *counts):
    return [(" ".join(letter + "abc"[k] for k in range(count)), trail()) for count in counts]


SAME = say("x num, y num, a line", "x", "x")


class TestClimbsAndSplits(PaperTest):
    forms = (climb, split)

    def test_on_open_names(self):
        for form in self.forms:
            self.good(SAME, form("x", *idle("p", 0, 1)))
            self.good(SAME, form("y", *idle("p", 0, 1)))
            self.good(SAME, form("a", *idle("p", 0, 2)))
            self.good(say("t tree", "t", "t"), form("t", *idle("p", 1, 2, 1)))
            self.good(say("w wood", "w", "w"), form("w", *idle("p", 2, 2)))

    def test_on_names_that_are_not_there(self):
        for form in self.forms:
            for name in ("z", "p", "", "X", "add", "none", "num", "name", "pa"):
                self.bad(SAME, form(name, *idle("p", 0, 1)))
            self.bad(say("", "none()", "none()"), form("x", *idle("p", 0, 1)))

    def test_fixed_names_may_be_split_alone(self):
        for form in self.forms:
            self.good(SAME, form("x", *idle("p", 0), ("q", split("q", *idle("r", 0, 1)))))
            self.bad(SAME, form("x", *idle("p", 0), ("q", climb("q", *idle("r", 0, 1)))))
            self.good(SAME, form("x", *idle("p", 0), ("q", climb("y", *idle("r", 0, 1)))))
            self.good(SAME, form("a", *idle("p", 0), ("q r", split("r", *idle("s", 0, 2)))))
            self.good(SAME, form("a", *idle("p", 0), ("q r", split("q", *idle("s", 0, 1)))))
            self.bad(SAME, form("a", *idle("p", 0), ("q r", climb("r", *idle("s", 0, 2)))))

    def test_a_name_is_gone_within_its_branches(self):
        for form in self.forms:
            for inner in self.forms:
                self.bad(SAME, form("x", ("", inner("x", *idle("r", 0, 1))), *idle("p", 1)))
                self.bad(SAME, form("x", ("", trail()), ("p", inner("x", *idle("r", 0, 1)))))
                self.good(SAME, form("x", ("", inner("y", *idle("r", 0, 1))), *idle("p", 1)))
            paper = split("p", ("", trail()), ("q", split("p", *idle("r", 0, 1))))
            self.bad(SAME, form("x", ("", trail()), ("p", paper)))

    def test_how_many_branches(self):
        for form in self.forms:
            for counts in ((), (0,), (1,), (0, 1, 0), (0, 1, 1), (0, 1, 0, 1)):
                self.bad(SAME, form("x", *idle("p", *counts)))
            for counts in ((), (1,), (1, 2), (1, 2, 1, 1)):
                self.bad(say("t tree", "t", "t"), form("t", *idle("p", *counts)))

    def test_how_many_names(self):
        for form in self.forms:
            for counts in ((1, 1), (0, 0), (0, 2), (1, 0), (2, 1)):
                self.bad(SAME, form("x", *idle("p", *counts)))
            for counts in ((0, 1), (0, 0), (0, 3), (2, 0)):
                self.bad(SAME, form("a", *idle("p", *counts)))

    def branch_names(self, form, name, names):
        return (form, name, (((), trail()), (names, trail())))

    def test_names_of_branches(self):
        for form in ("climb", "split"):
            for name in ("p", "add", "none", "num", "m", "z", "a" * 12, "name"):
                self.good(SAME, self.branch_names(form, "x", (name,)))
                self.good(SAME, self.branch_names(form, "a", (name, "q")))
                self.good(SAME, self.branch_names(form, "a", ("q", name)))
            for name in ("", "P", "p ", "p q", "a" * 13, "p1", "~", "x", "y", "a"):
                self.bad(SAME, self.branch_names(form, "x", (name,)))
                self.bad(SAME, self.branch_names(form, "a", (name, "q")))
                self.bad(SAME, self.branch_names(form, "a", ("q", name)))
            self.bad(SAME, self.branch_names(form, "a", ("q", "q")))

    def test_names_of_branches_are_unlike_fixed_names(self):
        for form in self.forms:
            for inner in self.forms:
                self.good(SAME, form("x", ("", trail()), ("p", inner("y", ("", trail()), ("q", trail())))))
                self.bad(SAME, form("x", ("", trail()), ("p", inner("y", ("", trail()), ("p", trail())))))
            self.bad(SAME, form("x", ("", trail()), ("p", split("p", ("", trail()), ("p", trail())))))

    def test_names_of_branches_in_one_another_alone(self):
        # Branches beside one another may have the same names.
        twice = say("t tree", "t", "t")
        for form in self.forms:
            self.good(twice, form("t", ("p", trail()), ("p q", trail()), ("p", trail())))

    def test_names_of_branches_are_unlike_open_names_of_lessers(self):
        def inner(name):
            return split("y", ("", trail()), ("q", split("q", ("", trail()), (name, trail()))))

        # Climbing x in the second branch leaves a lesser in which y and a are open.
        self.good(SAME, climb("x", ("", trail()), ("p", inner("r"))))
        self.bad(SAME, climb("x", ("", trail()), ("p", inner("y"))))
        self.good(SAME, climb("x", ("", trail()), ("p", inner("x"))))
        # In the first branch, and where x is split, there is no lesser.
        self.good(SAME, climb("x", ("", inner("y")), ("p", trail())))
        self.good(SAME, split("x", ("", trail()), ("p", inner("y"))))
        self.good(SAME, split("x", ("", trail()), ("p", inner("x"))))
        # Of several lessers each one's: the first one has x and y open, the second one y.
        for name, good in (("r", True), ("a", True), ("y", False), ("x", False), ("h", False)):
            paper = climb("a", ("", trail()), ("h t", climb("x", ("", trail()), ("p", inner(name)))))
            (self.good if good else self.bad)(SAME, paper)

    def test_names_are_of_the_kinds_of_the_parts(self):
        before = [say("z line", "none()", "none()"), say("z num", "none()", "none()")]
        saying = say("a line", "put(none(), a)", "put(none(), a)")
        for form in self.forms:
            for k, name, good in ((0, "q", True), (1, "p", True), (0, "p", False), (1, "q", False), (0, "a", False)):
                paper = form("a", ("", trail()), ("p q", trail(shown(k, (0,), z=name))))
                (self.good if good else self.bad)(saying, paper, before)
            self.bad(saying, form("a", ("", trail(shown(0, (0,), z="q"))), ("p q", trail())), before)
            self.good(saying, form("a", ("", trail(shown(0, (0,), z="end()"))), ("p q", trail())), before)

    def test_open_and_fixed_names_stay_for_put_ins(self):
        before = [say("z num", "none()", "none()")]
        saying = say("x num, y num", "add(x, none())", "add(x, none())")
        for form in self.forms:
            for name, good in (("y", True), ("p", True), ("add(p, y)", True), ("x", False), ("next(x)", False)):
                paper = form("x", ("", trail()), ("p", trail(shown(0, (1,), z=name))))
                (self.good if good else self.bad)(saying, paper, before)
            for name, good in (("y", True), ("q", True), ("p", False), ("x", False)):
                paper = form("x", ("", trail()), ("p", split("p", ("", trail()), ("q", trail(shown(0, (1,), z=name))))))
                (self.good if good else self.bad)(saying, paper, before)

    def test_makers_are_put_in_on_both_sides(self):
        saying = say("x num, t tree", "choose(x, t, t)", "t")
        for form in self.forms:
            self.good(saying, form("x", ("", trail(row("choose", "none", s="t", t="t"))),
                                   ("p", trail(row("choose", "next", m="p", s="t", t="t")))))
            self.bad(saying, form("x", ("", trail(row("choose", "next", m="x", s="t", t="t"))),
                                  ("p", trail(row("choose", "next", m="p", s="t", t="t")))))
            self.bad(saying, form("x", ("p", trail(row("choose", "next", m="p", s="t", t="t"))),
                                  ("", trail(row("choose", "none", s="t", t="t")))))
        turned = say("x num", "x", "add(x, none())")
        self.good(turned, climb("x", ("", trail(row("add", "none", back=True, y="none()"))),
                                ("p", trail(lesser(0, (0,)), row("add", "next", back=True, m="p", y="none()")))))

    def test_each_branch_is_judged(self):
        # Only numbers above none are themselves with one less and one more.
        saying = say("x num", "next(before(x))", "x")
        for form in self.forms:
            good = ("p", trail(row("before", "next", (0,), m="p")))
            self.bad(saying, form("x", ("", trail(row("before", "none", (0,)))), good))
            self.bad(saying, form("x", ("", trail()), good))
            self.good(say("x num", "next(before(next(x)))", "next(x)"),
                      form("x", ("", trail(row("before", "next", (0,), m="none()"))),
                           ("p", trail(row("before", "next", (0,), m="next(p)")))))

    def test_signs(self):
        self.program = Program(Stock(signs()), turns())
        saying = say("s sign", "flip(flip(s))", "s")
        order = ("yes", "no", "maybe", "never")
        turned = dict(zip(order, ("no", "yes", "never", "maybe")))
        branches = [("", trail(row("flip", sign, (0,)), row("flip", turned[sign]))) for sign in order]
        for form in self.forms:
            self.good(saying, form("s", *branches))
            self.bad(saying, form("s", *branches[:3]))
            self.bad(saying, form("s", *branches + branches[:1]))
            self.bad(saying, form("s", *reversed(branches)))

    def test_eight_papers_within_one_another(self):
        for form in self.forms:
            paper = trail()
            for k in reversed(range(6)):
                paper = split("q" + "abcdefg"[k], ("", trail()), ("q" + "abcdefg"[k + 1], paper))
            self.good(SAME, form("x", ("", trail()), ("qa", paper)))
            self.bad(SAME, form("x", ("", trail()), ("qb", paper)))


class TestLessers(PaperTest):
    # Whether the lesser with number k may be used at the place, in the branch with this number, of a saying that each
    # thing of the kind is itself.
    def idle_use(self, kind, counts, branch, k, place):
        saying = say("c " + kind, "c", "c")
        branches = [("p q".split()[:count], trail()) for count in counts]
        branches[branch] = (branches[branch][0], trail(lesser(k, place)))
        branches = [(" ".join(names), paper) for names, paper in branches]
        self.bad(saying, split("c", *branches))
        return shows(self.program, [], saying, climb("c", *branches))

    def test_one_for_each_part_of_the_same_kind_in_order(self):
        for kind, counts, right in (("num", (0, 1), {(1, 0, (0,))}), ("line", (0, 2), {(1, 0, (1,))}),
                                    ("tree", (1, 2, 1), {(1, 0, (0,)), (1, 1, (1,))}),
                                    ("wood", (2, 2), {(1, 0, (0,))})):
            for branch in range(len(counts)):
                for k in (-2, -1, 0, 1, 2, 3, 10 ** 20):
                    for place in ((), (0,), (1,)):
                        with self.subTest(kind=kind, branch=branch, k=k, place=place):
                            self.assertIs(self.idle_use(kind, counts, branch, k, place), (branch, k, place) in right)

    def test_open_names_without_the_climbed_one(self):
        saying = say("x num, y num, a line", "add(x, y)", "add(x, y)")

        def paper(*pairs):
            use = ((0,), ("lesser", 0), False, tuple((name, ex(text)) for name, text in pairs))
            return climb("x", ("", trail()), ("p", trail(row("add", "next", m="p", y="y"), use,
                                                         row("add", "next", back=True, m="p", y="y"))))

        self.good(saying, paper(("y", "y"), ("a", "a")))
        self.good(saying, paper(("a", "put(p, a)"), ("y", "y")))
        for pairs in ([], [("y", "y")], [("a", "a")], [("y", "y"), ("a", "a"), ("x", "p")], [("y", "y"), ("x", "y")],
                      [("y", "y"), ("a", "a"), ("p", "p")], [("y", "y"), ("a", "y")], [("y", "y"), ("a", "x")],
                      [("y", "x"), ("a", "a")], [("y", "y"), ("a", "a"), ("a", "a")], [("y", "p"), ("a", "a")],
                      [("y", "y"), ("a", "put(x, a)")], [("y", "next(y)"), ("a", "a")]):
            self.bad(saying, paper(*pairs))

    def test_back(self):
        saying = say("x num", "x", "add(x, none())")
        first = ("", trail(row("add", "none", back=True, y="none()")))
        last = row("add", "next", back=True, m="p", y="none()")
        self.good(saying, climb("x", first, ("p", trail(lesser(0, (0,)), last))))
        self.bad(saying, climb("x", first, ("p", trail(lesser(0, (0,), True), last))))
        self.bad(saying, climb("x", first, ("p", trail(last))))
        turned = say("x num", "add(x, none())", "x")
        self.good(turned, ADD_NONE_PAPER)
        self.good(say("x num", "next(add(x, none()))", "next(x)"), climb(
            "x", ("", trail(row("add", "none", (0,), y="none()"))),
            ("p", trail(row("add", "next", (0,), m="p", y="none()"), lesser(0, (0,))))))

    def test_the_saying_itself_is_no_lesser(self):
        for saying in FALSE_ONES:
            self.bad(saying, trail(step(("lesser", 0), (), False, {name: name for name, kind in saying[0]})))
        # Nor is it for what was climbed, only for its parts.
        saying = say("x num", "next(x)", "x")
        self.bad(saying, climb("x", ("", trail(lesser(0))), ("p", trail(lesser(0, (0,))))))
        self.bad(saying, climb("x", ("", trail()), ("p", trail(lesser(0, (0,))))))

    # Turned sums, with nothing shown before: the second climb has the first one's lesser too.
    def climbs_within(self, first="lesser", second=1, y="next(q)"):
        below = climb(
            "y",
            ("", trail(row("add", "next", m="p", y="none()"), lesser(0, (0,), y="none()"),
                       row("add", "none", (0,), y="p"), row("add", "none", back=True, y="next(p)"))),
            ("q", trail(row("add", "next", m="p", y="next(q)"), lesser(0, (0,), y=y),
                        row("add", "next", (0,), m="q", y="p"), lesser(0, (0, 0), True, y="q"),
                        row("add", "next", (0,), True, m="p", y="q"), lesser(second, (0,)),
                        row("add", "next", back=True, m="q", y="next(p)"))))
        ground = climb("y", ("", trail()),
                       ("q", trail(row("add", "none", y="next(q)"), row("add", "none", (0,), True, y="q"),
                                   ((0,), (first, 0), False, ()), row("add", "next", back=True, m="q", y="none()"))))
        return climb("x", ("", ground), ("p", below))

    def test_climbs_within_climbs(self):
        self.good(ADD_TURNED, self.climbs_within())
        self.bad(ADD_TURNED, self.climbs_within(first="shown"))
        self.bad(ADD_TURNED, self.climbs_within(second=0))
        self.bad(ADD_TURNED, self.climbs_within(second=2))
        self.bad(ADD_TURNED, self.climbs_within(y="q"))
        form, name, branches = self.climbs_within()
        for k in range(2):
            inner = ("split",) + branches[k][1][1:]
            other = branches[:k] + ((branches[k][0], inner),) + branches[k + 1:]
            self.bad(ADD_TURNED, (form, name, other))
        self.bad(ADD_TURNED, ("split", name, branches))

    def test_fixed_names_in_lessers_are_not_put_in(self):
        saying = say("x num, y num", "add(x, y)", "add(x, y)")

        def paper(*pairs):
            use = ((), ("lesser", 1), False, tuple((name, ex(text)) for name, text in pairs))
            inner = trail(shown(0, p="p", q="q"), use, shown(0, back=True, p="p", q="q"))
            return climb("x", ("", trail()), ("p", climb("y", ("", trail()), ("q", inner))))

        # A saying that holds for no good reason leads from the goal to the lesser's left side.
        before = [say("p num, q num", "add(next(p), next(q))", "add(next(p), q)")]
        self.good(saying, paper(), before)
        self.bad(saying, paper(("p", "p")), before)
        self.bad(saying, paper(("x", "p")), before)
        self.bad(saying, paper(("y", "q")), before)

    def test_a_split_of_a_fixed_name_goes_into_the_lessers(self):
        first = ("", trail(row("add", "none", y="none()")))

        def paper(*used, none=(row("add", "next", m="none()", y="none()"), lesser(0, (0,)))):
            return climb("x", first, ("p", split("p", ("", trail(*none)), ("q", trail(*used)))))

        turn = row("add", "next", m="next(q)", y="none()")
        further = row("add", "next", (0,), m="q", y="none()")
        self.good(ADD_NONE, paper(turn, lesser(0, (0,))))
        self.good(ADD_NONE, paper(turn, lesser(0, (0,)), none=(
            row("add", "next", m="none()", y="none()"), row("add", "none", (0,), y="none()"))))
        self.bad(ADD_NONE, paper(turn, further, lesser(0, (0, 0))))
        self.bad(ADD_NONE, paper(turn, further, lesser(1, (0, 0))))
        self.bad(ADD_NONE, paper(turn, lesser(1, (0,))))
        self.bad(ADD_NONE, paper(turn, lesser(0, (0,)), none=(lesser(0),)))

    def test_a_split_of_an_open_name_leaves_the_lessers(self):
        saying = say("x num, y num, t tree", "choose(add(x, y), t, t)", "t")
        before = [say("x num, t tree", "choose(x, t, t)", "t"), ADD_NONE]
        ground = ("", trail(row("add", "none", (0,), y="y"), shown(0, x="y", t="t")))

        def paper(*used):
            turn = (row("add", "next", (0,), m="p", y="next(q)"),
                    row("choose", "next", m="add(p, next(q))", s="t", t="t"))
            return climb("x", ground, ("p", split("y", ("", trail(
                row("add", "next", (0,), m="p", y="none()"), row("choose", "next", m="add(p, none())", s="t", t="t"))),
                ("q", trail(*turn + used)))))

        self.good(saying, paper(), before)
        there = (shown(1, (0,), x="p"), shown(0, x="p", t="t"))
        self.good(saying, paper(lesser(0, back=True, y="none()", t="t"), *there), before)
        self.bad(saying, paper(lesser(0, back=True, y="next(q)", t="t"), *there), before)
        self.good(saying, paper(lesser(0, back=True, y="next(q)", t="t"), lesser(0, y="next(q)", t="t")), before)
        self.bad(saying, paper(lesser(0, back=True, t="t"), lesser(0, t="t")), before)
        self.bad(saying, paper(lesser(0, back=True, q="q", t="t"), lesser(0, q="q", t="t")), before)
        self.bad(saying, paper(lesser(0, back=True, y="y", t="t"), lesser(0, y="y", t="t")), before)
        self.bad(saying, paper(lesser(1, back=True, y="q", t="t"), lesser(1, y="q", t="t")), before)

    def test_splits_of_fixed_names_go_into_all_lessers(self):
        # Both parts of a fork have a lesser; the first part is split, the second one's lesser stays as it is.
        def paper(*used):
            turn = (row("mirror", "fork", (0,), a="fork(r, s)", b="q"), row("mirror", "fork", a="mirror(q)",
                                                                           b="mirror(fork(r, s))"))
            inner = split("p", ("n", self.rest("leaf(n)")), ("r s", trail(*turn + used)), ("w", self.rest("bag(w)")))
            return climb("t", MIRROR_LEAF, ("p q", inner), MIRROR_BAG)

        self.good(MIRROR_TWICE, paper(lesser(0, (0,)), lesser(1, (1,))))
        self.bad(MIRROR_TWICE, paper(lesser(1, (0,)), lesser(0, (1,))))
        self.bad(MIRROR_TWICE, paper(lesser(0, (0,)), lesser(2, (1,))))

    def rest(self, text):
        return trail(row("mirror", "fork", (0,), a=text, b="q"),
                     row("mirror", "fork", a="mirror(q)", b=f"mirror({text})"), lesser(0, (0,)), lesser(1, (1,)))


if __name__ == "__main__":
    unittest.main()
