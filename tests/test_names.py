import unittest

from stairsay.errors import BadName
from stairsay.names import is_name
from stairsay.stocks import Stock

LETTERS = "abcdefghijklmnopqrstuvwxyz"
PRINTED = "".join(chr(code) for code in range(ord(" "), ord("~") + 1))
GOOD = ("a", "z", "ab", "kind", "abcdefghijkl", "opqrstuvwxyz", "aaaaaaaaaaaa", "name", "none")
BAD = ("", "abcdefghijklm", "a" * 13, "a" * 300, "A", "Z", "aB", "Ab", "0", "a1", "1a", "a b", " a", "a ", " ", "a_b",
       "_a", "a-b", "a.", "(", "a()", "~", "`", "{", "@", "[")


class TestNames(unittest.TestCase):
    def test_names(self):
        for text in GOOD:
            with self.subTest(text):
                self.assertIs(is_name(text), True)

    def test_texts_that_are_no_names(self):
        for text in BAD:
            with self.subTest(text):
                self.assertIs(is_name(text), False)

    def test_each_length(self):
        for length in range(30):
            with self.subTest(length):
                self.assertIs(is_name("q" * length), 1 <= length <= 12)

    def test_each_sign_alone_and_within(self):
        for sign in PRINTED:
            for text in (sign, sign + "ab", "a" + sign + "b", "ab" + sign):
                with self.subTest(text):
                    self.assertIs(is_name(text), sign in LETTERS)

    def test_kinds_and_makers_take_names_alone(self):
        for text in GOOD:
            with self.subTest(text):
                stock = Stock([(text, [(text, ())])])
                self.assertEqual((stock.kinds(), stock.makers(text)), ([text], [text]))
        for text in BAD:
            with self.subTest(text):
                with self.assertRaises(BadName):
                    Stock([(text, [("maker", ())])])
                with self.assertRaises(BadName):
                    Stock([("kind", [(text, ())])])
                with self.assertRaises(BadName):
                    Stock([("kind", [("maker", ()), (text, ())])])


if __name__ == "__main__":
    unittest.main()
