"""Point 25: shown_as and read_as."""

import random
import unittest

from samples import groves, lines, random_expression, signs, steps, trees
from stairsay.errors import BadText
from stairsay.programs import Program
from stairsay.stocks import Stock
from stairsay.texts import read_as, shown_as

X, Y = ("name", "x"), ("name", "y")
NONE = ("make", "none", ())
# Expressions over the stock trees and the texts that write them.
WRITTEN = (
    (X, "x"), (("name", "abcdefghijkl"), "abcdefghijkl"), (("name", "none"), "none"), (("name", "add"), "add"),
    (NONE, "none()"), (("make", "next", (X,)), "next(x)"), (("make", "put", (X, Y)), "put(x, y)"),
    (("call", "f", ()), "f()"), (("call", "before", (X,)), "before(x)"), (("call", "add", (X, Y)), "add(x, y)"),
    (("call", "choose", (X, Y, X)), "choose(x, y, x)"), (("call", "abcdefghijkl", (X,)), "abcdefghijkl(x)"),
    (("call", "add", (("make", "next", (NONE,)), ("call", "add", (X, NONE)))), "add(next(none()), add(x, none()))"),
    (("make", "put", (("call", "length", (("make", "end", ()),)), ("name", "a"))), "put(length(end()), a)"),
    (("call", "f", (("call", "g", ()), ("call", "h", (("call", "g", ()),)))), "f(g(), h(g()))"),
    # Neither needs the count of arguments that it has elsewhere.
    (("make", "none", (X, Y, X)), "none(x, y, x)"), (("make", "put", ()), "put()"),
)
BAD = (
    "", " ", "  ", " x", "x ", " f(x)", "f(x) ", "f(x,y)", "f(x,  y)", "f(x,   y)", "f(x , y)", "f(x ,y)", "f( x)", "f(x )",
    "f (x)", "f ()", "f( )", "f(x, y )", "f(g(x) )", "f(x)  ",
    "f(x,)", "f(x, )", "f(,x)", "f(, x)", "f(x,, y)", "f(x, , y)", "f(,)", "f(, )", ",", ", ", "x,", "x, ", ",x", ", x",
    "f(x", "f(", "f(g(x)", "f(x, y", "f(x, ", "f(x,", "f(g(", "(", "x)", "f(x))", ")", ")(", "()", "(x)", "((x))", "f(())",
    "f((x))", "f(x)()", "f()()", "f(x)(y)", "f)x(", "f(g()))", "(f(x))", "f(x, (y))", "(x)f", "()f", "(x, y)f",
    "abcdefghijklm", "abcdefghijklm()", "f(abcdefghijklm)", "f(x, abcdefghijklm(y))", "a" * 100, "f(" + "a" * 13 + ")",
    "X", "F(x)", "f(X)", "addX(x)", "Add(x, y)", "x1", "1", "f(1)", "f1(x)", "f(x, 2)", "none0()",
    "f[x]", "f{x}", "f(x;y)", "f(x; y)", "f(x. y)", "f-g", "f_g(x)", "x'", "\"x\"", "f(x)!", "~", "f(~)", "f(x)+g(x)", "x=y",
    "f(x, -)", "@", "`", "{", "[", "f<x>",
    "x y", "x, y", "x,y", "f(x)g(x)", "f(x) g(x)", "f(x), g(x)", "f(x)y", "f(x) y", "x f(y)", "f(x y)", "f(g(x)y)",
    "f(x g(y))", "f(g(x) h(y))", "f(g(x)h(y))", "f(x), y", "x, f(y)", "f(x),g(x)", "f(x)), g((x)", "f(x), g(y",
)


# The expression that a text writes, read in another way, from the left at one go; None where it writes none.
def reads(makers, text):
    def one(at):
        end = at
        while end < len(text) and "a" <= text[end] <= "z":
            end += 1
        if not 1 <= end - at <= 12:
            return None
        word = text[at:end]
        if text[end:end + 1] != "(":
            return ("name", word), end
        form = "make" if word in makers else "call"
        if text[end + 1:end + 2] == ")":
            return (form, word, ()), end + 2
        arguments, at = [], end + 1
        while True:
            inner = one(at)
            if inner is None:
                return None
            arguments.append(inner[0])
            at = inner[1]
            if text[at:at + 1] == ")":
                return (form, word, tuple(arguments)), at + 1
            if text[at:at + 2] != ", ":
                return None
            at += 2

    whole = one(0)
    return whole[0] if whole is not None and whole[1] == len(text) else None


class TestTexts(unittest.TestCase):
    def setUp(self):
        self.stock = Stock(trees())

    def test_shown_as(self):
        for expression, text in WRITTEN:
            with self.subTest(text=text):
                self.assertEqual(shown_as(expression), text)

    def test_a_maker_and_a_function_of_one_name_are_written_alike(self):
        self.assertEqual(shown_as(("call", "next", (X,))), "next(x)")
        self.assertEqual(shown_as(("make", "add", (X, Y))), "add(x, y)")

    def test_read_as(self):
        for expression, text in WRITTEN:
            with self.subTest(text=text):
                told = read_as(self.stock, text)
                self.assertEqual(told, expression)
                self.assertIsInstance(told, tuple)

    def test_a_word_with_a_bracket_is_a_maker_where_the_stock_has_one(self):
        for kinds, form in ((steps(), "call"), (lines(), "make"), (signs(), "call"), (trees(), "make")):
            self.assertEqual(read_as(Stock(kinds), "put(x, end())"), (form, "put", (X, (form, "end", ()))))
        self.assertEqual(read_as(Stock(signs()), "yes(next(x))"), ("make", "yes", (("call", "next", (X,)),)))
        # A kind's name is no maker's.
        self.assertEqual(read_as(self.stock, "num(x)"), ("call", "num", (X,)))

    def test_a_word_without_a_bracket_is_a_name(self):
        for word in ("none", "next", "add", "num", "end", "x", "abcdefghijkl"):
            self.assertEqual(read_as(self.stock, word), ("name", word))

    def test_bad_texts(self):
        for text in BAD:
            with self.subTest(text=text):
                with self.assertRaises(BadText):
                    read_as(self.stock, text)

    def test_every_other_sign_is_refused(self):
        for code in range(32, 127):
            sign = chr(code)
            if not "a" <= sign <= "z":
                for text in (sign, "x" + sign, sign + "x", "f(x" + sign + ")" if sign != ")" else "))",
                             "f(x)" + sign, sign + "f(x)", "f(" + sign + "x)" if sign != ")" else "f()x)"):
                    with self.subTest(text=text):
                        self.assertRaises(BadText, read_as, self.stock, text)

    def test_letters_at_the_ends_of_the_alphabet(self):
        self.assertEqual(read_as(self.stock, "az(a, z)"), ("call", "az", (("name", "a"), ("name", "z"))))

    def test_brackets_twelve_deep_and_texts_of_three_thousand_signs(self):
        deep = "f(" * 11 + "x" + ")" * 11
        self.assertEqual(shown_as(read_as(self.stock, deep)), deep)
        self.assertRaises(BadText, read_as, self.stock, deep + ")")
        self.assertRaises(BadText, read_as, self.stock, deep[:-1])
        wide = "f(" + ", ".join(["abcd"] * 499) + ")"
        self.assertEqual(len(wide), 2995)
        self.assertEqual(read_as(self.stock, wide), ("call", "f", (("name", "abcd"),) * 499))
        self.assertRaises(BadText, read_as, self.stock, wide[:-1] + ",)")
        self.assertRaises(BadText, read_as, self.stock, wide[:-1])

    def test_many_brackets_are_no_matter(self):
        for text in ("f(" * 1500, ")" * 3000, "(" * 3000, "f(" * 999 + "x" + ")" * 998):
            self.assertRaises(BadText, read_as, self.stock, text)

    def test_what_is_shown_is_read_back(self):
        program = Program(self.stock, groves())
        heads = {function: program.kinds_of(function) for function in program.functions()}
        dice = random.Random(25)
        for k in range(500):
            names = {name: dice.choice(("num", "line", "tree", "wood")) for name in ("x", "none", "abcdefghijkl", "a")}
            kind = dice.choice(("num", "line", "tree", "wood"))
            expression = random_expression(dice, trees(), heads, names, kind, dice.randint(0, 5))
            with self.subTest(expression=expression):
                self.assertEqual(read_as(self.stock, shown_as(expression)), expression)

    def test_texts_changed_at_a_place(self):
        makers = [maker for kind, makers in trees() for maker, parts in makers]
        dice = random.Random(26)
        answers = {True: 0, False: 0}
        for k in range(6000):
            text = dice.choice(WRITTEN)[1]
            for change in range(dice.randint(1, 3)):
                at = dice.randrange(len(text) + 1)
                text = text[:at] + dice.choice(["", "(", ")", ", ", ",", " ", "a", "f(", "none()"]) + text[
                    at + dice.randint(0, 2):]
            wanted = reads(makers, text)
            with self.subTest(text=text):
                if wanted is None:
                    self.assertRaises(BadText, read_as, self.stock, text)
                else:
                    self.assertEqual(read_as(self.stock, text), wanted)
                    self.assertEqual(shown_as(wanted), text)
            answers[wanted is None] += 1
        self.assertGreater(min(answers.values()), 500)


if __name__ == "__main__":
    unittest.main()
