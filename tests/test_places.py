import copy
import random
import unittest

from samples import ex, groves, places_of, random_expression, trees
from stairsay.errors import NoPlace
from stairsay.places import filled, matched, names_in, part_at, put_at
from stairsay.programs import Program
from stairsay.stocks import Stock

SAMPLES = ("x", "none()", "next(x)", "put(x, put(y, end()))", "add(times(x, y), next(add(y, x)))",
           "glue(back(a), put(next(none()), glue(b, a)))", "choose(x, fork(s, mirror(s)), leaf(y))", "unknown()")
OTHERS = ("z", "none()", "glue(put(x, a), a)")


def random_expressions(seed, count, deep=4):
    dice = random.Random(seed)
    program = Program(Stock(trees()), groves())
    heads = {function: program.kinds_of(function) for function in program.functions()}
    names = {"x": "num", "y": "num", "a": "line", "b": "line", "s": "tree", "w": "wood"}
    return [random_expression(dice, trees(), heads, names, dice.choice(("num", "line", "tree")), deep)
            for k in range(count)]


ALL = [ex(text) for text in SAMPLES] + random_expressions(1, 40)


# Names from the left, each as often as it stands.
def all_names(expression):
    if expression[0] == "name":
        return [expression[1]]
    return [name for argument in expression[2] for name in all_names(argument)]


class TestPartAt(unittest.TestCase):
    def test_written_out(self):
        expression = ex("glue(back(a), put(next(none()), glue(b, a)))")
        for place, text in (((0,), "back(a)"), ((0, 0), "a"), ((1,), "put(next(none()), glue(b, a))"),
                            ((1, 0), "next(none())"), ((1, 0, 0), "none()"), ((1, 1, 0), "b"), ((1, 1, 1), "a")):
            self.assertEqual(part_at(expression, place), ex(text))

    def test_the_whole(self):
        for expression in ALL:
            self.assertEqual(part_at(expression, ()), expression)

    def test_each_place(self):
        for expression in ALL:
            for place in places_of(expression):
                part = expression
                for number in place:
                    part = part[2][number]
                self.assertEqual(part_at(expression, place), part)


class TestPutAt(unittest.TestCase):
    def test_written_out(self):
        expression = ex("put(x, glue(a, put(y, b)))")
        for place, text in (((), "z"), ((0,), "put(z, glue(a, put(y, b)))"), ((1,), "put(x, z)"),
                            ((1, 0), "put(x, glue(z, put(y, b)))"), ((1, 1), "put(x, glue(a, z))"),
                            ((1, 1, 0), "put(x, glue(a, put(z, b)))"), ((1, 1, 1), "put(x, glue(a, put(y, z)))")):
            self.assertEqual(put_at(expression, place, ex("z")), ex(text))

    def test_each_place(self):
        for expression in ALL:
            for place in places_of(expression):
                self.assertEqual(put_at(expression, place, part_at(expression, place)), expression)
                for text in OTHERS:
                    made = put_at(expression, place, ex(text))
                    self.assertEqual(part_at(made, place), ex(text))
                    self.check_elsewhere(expression, made, place)

    def check_elsewhere(self, expression, made, place):
        for other in places_of(expression):
            if other[:len(place)] != place and place[:len(other)] != other:
                self.assertEqual(part_at(made, other), part_at(expression, other))
            if len(other) < len(place) and place[:len(other)] == other:
                self.assertEqual(part_at(made, other)[:2], part_at(expression, other)[:2])
                self.assertEqual(len(part_at(made, other)[2]), len(part_at(expression, other)[2]))

    def test_what_is_handed_in_stays(self):
        expression = ex("put(x, end())")
        put_at(expression, (1,), ex("a"))
        self.assertEqual(expression, ex("put(x, end())"))

    def test_what_is_told_is_made_of_tuples(self):
        made = put_at(ex("put(x, glue(a, b))"), (1, 0), ex("end()"))
        self.assertEqual(made, ex("put(x, glue(end(), b))"))
        self.assertIs(made[2].__class__, tuple)
        self.assertIs(made[2][1][2].__class__, tuple)


class TestNoPlace(unittest.TestCase):
    def refused(self, expression, place):
        with self.subTest(expression=expression, place=place):
            with self.assertRaises(NoPlace):
                part_at(expression, place)
            with self.assertRaises(NoPlace):
                put_at(expression, place, ex("z"))

    def test_numbers_that_no_argument_has(self):
        for expression in ALL:
            for place in places_of(expression):
                part = part_at(expression, place)
                count = 0 if part[0] == "name" else len(part[2])
                for number in (-1, -2, -count, count, count + 1, 10 ** 30, -10 ** 30):
                    if not 0 <= number < count:
                        self.refused(expression, place + (number,))
                        self.refused(expression, place + (number, 0))

    def test_below_names_and_makers_without_parts(self):
        for text in ("x", "none()", "unknown()"):
            for place in ((0,), (0, 0), (-1,), (1,), (0,) * 2000):
                self.refused(ex(text), place)
        self.refused(ex("put(x, a)"), (0, 0))
        self.refused(ex("put(x, a)"), (1, 1))

    def test_a_wrong_number_ahead_of_others(self):
        self.refused(ex("add(x, add(x, y))"), (-1, 0))
        self.refused(ex("add(x, add(x, y))"), (-1,))
        self.refused(ex("add(x, add(x, y))"), (2, 0))


class TestFilled(unittest.TestCase):
    def fill(self, text, **put_ins):
        return filled(ex(text), {name: ex(other) for name, other in put_ins.items()})

    def test_written_out(self):
        self.assertEqual(self.fill("x", x="none()"), ex("none()"))
        self.assertEqual(self.fill("add(x, next(x))", x="add(y, y)"), ex("add(add(y, y), next(add(y, y)))"))
        self.assertEqual(self.fill("put(x, glue(a, b))", a="end()", x="y"), ex("put(y, glue(end(), b))"))

    def test_all_at_once(self):
        self.assertEqual(self.fill("add(x, y)", x="y", y="x"), ex("add(y, x)"))
        self.assertEqual(self.fill("add(y, add(x, z))", x="next(x)", y="x", z="add(x, y)"),
                         ex("add(x, add(next(x), add(x, y)))"))
        self.assertEqual(self.fill("add(x, x)", x="add(x, x)"), ex("add(add(x, x), add(x, x))"))

    def test_other_names_stay(self):
        for expression in ALL:
            self.assertEqual(filled(expression, {}), expression)
            self.assertEqual(filled(expression, {"z": ex("none()")}), expression)
        self.assertEqual(self.fill("add(x, y)", y="z", z="x"), ex("add(x, z)"))

    def test_makers_and_functions_stay(self):
        put_ins = {name: "z" for name in ("add", "next", "none", "name", "make", "call")}
        self.assertEqual(self.fill("add(next(x), none())", **put_ins), ex("add(next(x), none())"))
        self.assertEqual(self.fill("add(add, none)", add="x", none="none()"), ex("add(x, none())"))
        self.assertEqual(self.fill("unknown()", unknown="x"), ex("unknown()"))

    def test_each_place(self):
        put_ins = {"x": ex("add(y, x)"), "y": ex("x"), "a": ex("put(x, b)"), "s": ex("leaf(none())")}
        for expression in ALL:
            made = filled(expression, put_ins)
            for place in places_of(expression):
                part, new = part_at(expression, place), part_at(made, place)
                if part[0] == "name":
                    self.assertEqual(new, put_ins.get(part[1], part))
                else:
                    self.assertEqual((new[:2], len(new[2])), (part[:2], len(part[2])))

    def test_nothing_handed_in_is_changed(self):
        put_ins = {"x": ex("next(x)"), "y": ex("x")}
        kept = copy.deepcopy(put_ins)
        made = filled(ex("add(x, y)"), put_ins)
        self.assertEqual(put_ins, kept)
        put_ins.clear()
        self.assertEqual(made, ex("add(next(x), x)"))


class TestNamesIn(unittest.TestCase):
    def test_written_out(self):
        for text, names in (("x", ["x"]), ("none()", []), ("add(y, x)", ["y", "x"]), ("add(x, x)", ["x"]),
                            ("add(add(c, a), add(b, add(a, d)))", ["c", "a", "b", "d"]),
                            ("put(next(none()), glue(b, put(x, b)))", ["b", "x"]), ("unknown()", []),
                            ("add(b, add(add(c, b), a))", ["b", "c", "a"])):
            with self.subTest(text):
                self.assertEqual(names_in(ex(text)), names)

    def test_makers_and_functions_are_no_names(self):
        self.assertEqual(names_in(ex("add(next(none()), add)")), ["add"])

    def test_each_once_from_the_left(self):
        for expression in ALL:
            self.assertEqual(names_in(expression), list(dict.fromkeys(all_names(expression))))

    def test_what_is_told_is_the_askers_own(self):
        expression = ex("add(x, y)")
        names_in(expression).clear()
        self.assertEqual(names_in(expression), ["x", "y"])


class TestMatched(unittest.TestCase):
    def check(self, pattern, text, **put_ins):
        with self.subTest(pattern=pattern, text=text):
            wanted = {name: ex(other) for name, other in put_ins.items()}
            self.assertEqual(matched(ex(pattern), ex(text)), wanted)

    def none(self, pattern, text):
        with self.subTest(pattern=pattern, text=text):
            self.assertIsNone(matched(ex(pattern), ex(text)))

    def test_names(self):
        self.check("x", "x", x="x")
        self.check("x", "y", x="y")
        self.check("x", "add(x, none())", x="add(x, none())")
        self.check("add(x, y)", "add(y, x)", x="y", y="x")
        self.check("add(x, next(y))", "add(none(), next(add(x, x)))", x="none()", y="add(x, x)")

    def test_without_names(self):
        self.assertEqual(matched(ex("none()"), ex("none()")), {})
        self.assertEqual(matched(ex("add(none(), next(none()))"), ex("add(none(), next(none()))")), {})
        self.none("add(none(), next(none()))", "add(none(), none())")

    def test_a_name_more_than_once(self):
        self.check("add(x, x)", "add(y, y)", x="y")
        self.check("add(x, next(x))", "add(next(y), next(next(y)))", x="next(y)")
        self.check("add(x, add(y, x))", "add(none(), add(z, none()))", x="none()", y="z")
        self.none("add(x, x)", "add(y, z)")
        self.none("add(x, next(x))", "add(y, next(z))")
        self.none("add(x, next(x))", "add(next(y), next(y))")
        self.none("add(x, add(y, x))", "add(none(), add(none(), z))")
        self.none("add(next(x), x)", "add(next(x), next(x))")

    def test_unlike_heads(self):
        self.none("next(x)", "x")
        self.none("none()", "x")
        self.none("next(x)", "none()")
        self.none("add(x, y)", "times(x, y)")
        self.none("add(x, next(y))", "add(x, y)")
        self.none("add(x, none())", "add(x, next(none()))")

    def test_makers_against_calls_of_the_same_name(self):
        for arguments in ((), (ex("y"),), (ex("y"), ex("z"))):
            for pattern in (("make", "same", arguments), ("call", "same", arguments)):
                for other in ("make", "call"):
                    answer = matched(pattern, (other, "same", arguments))
                    self.assertEqual(answer is not None, other == pattern[0])

    def test_unlike_counts(self):
        self.none("f(x)", "f(x, y)")
        self.none("f(x, y)", "f(x)")
        self.none("f()", "f(x)")
        self.none("f(x)", "f()")
        self.none("g(f(x), y)", "g(f(x, x), y)")

    def test_each_filled_pattern_is_matched(self):
        dice = random.Random(16)
        parts = random_expressions(2, 30, 2)
        for pattern in ALL + random_expressions(3, 200, 3):
            put_ins = {name: dice.choice(parts) for name in names_in(pattern)}
            self.assertEqual(matched(pattern, filled(pattern, put_ins)), put_ins)

    def test_wherever_it_is_not_none_filled_leads_back(self):
        patterns = ALL + random_expressions(4, 150, 1) + [ex("add(x, x)"), ex("glue(a, a)")]
        matches = 0
        for pattern in patterns:
            for expression in patterns:
                put_ins = matched(pattern, expression)
                if put_ins is not None:
                    matches += 1
                    self.assertEqual(filled(pattern, put_ins), expression)
                    self.assertEqual(set(put_ins), set(names_in(pattern)))
        self.assertGreater(matches, 1000)

    def test_none_where_something_was_put_elsewhere(self):
        # A change at a place where the pattern has a head of its own, or at one of several places of a name.
        for pattern in ALL:
            put_ins = {name: ex("unheard(of)") for name in names_in(pattern)}
            expression = filled(pattern, put_ins)
            for place in places_of(pattern):
                part = part_at(pattern, place)
                alone = part[0] == "name" and all_names(pattern).count(part[1]) == 1
                other = put_at(expression, place, ex("other(thing)"))
                self.assertEqual(matched(pattern, other) is not None, alone)

    def test_what_is_told_is_the_askers_own(self):
        pattern, expression = ex("add(x, y)"), ex("add(none(), z)")
        matched(pattern, expression).clear()
        self.check("add(x, y)", "add(none(), z)", x="none()", y="z")


if __name__ == "__main__":
    unittest.main()
