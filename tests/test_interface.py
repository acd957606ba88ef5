"""The interface: every module, name and argument that the document tells."""

import importlib
import inspect
import unittest

from samples import groves, trees
from stairsay.books import Book
from stairsay.programs import Program
from stairsay.stocks import Stock

FUNCTIONS = {
    "things": ("is_thing(stock, kind, thing)", "size(thing)", "least(stock, kind)", "things(stock, kind, most)"),
    "programs": ("kind_of(program, names, expression)",),
    "runs": ("run(program, setting, expression, most)",),
    "places": ("part_at(expression, place)", "put_at(expression, place, other)", "filled(expression, put_ins)",
               "names_in(expression)", "matched(pattern, expression)"),
    "papers": ("sided(program, saying)", "shows(program, shown, saying, paper)"),
    "finder": ("plain(program, expression)", "found(program, shown, saying)"),
    "against": ("against(program, saying, most, calls)",),
    "texts": ("shown_as(expression)", "read_as(stock, text)"),
}
CLASSES = {
    "stocks": ("Stock(kinds)", "kinds()", "makers(kind)", "parts(maker)", "home(maker)"),
    "programs": ("Program(stock, functions)", "functions()", "kinds_of(function)", "row(function, maker)"),
    "books": ("Book(program)", "enter(saying, paper)", "sayings()", "reason(k)"),
}


def told(text):
    name, arguments = text[:-1].split("(")
    return name, [argument for argument in arguments.split(", ") if argument]


class TestInterface(unittest.TestCase):
    def test_functions(self):
        for module, texts in FUNCTIONS.items():
            for name, arguments in map(told, texts):
                function = getattr(importlib.import_module("stairsay." + module), name)
                self.assertEqual(list(inspect.signature(function).parameters), arguments, name)

    def test_classes(self):
        for module, texts in CLASSES.items():
            (name, arguments), *methods = map(told, texts)
            whole = getattr(importlib.import_module("stairsay." + module), name)
            self.assertEqual(list(inspect.signature(whole).parameters), arguments, name)
            for method, arguments in methods:
                self.assertEqual(list(inspect.signature(getattr(whole, method)).parameters), ["self"] + arguments, method)

    def test_fields(self):
        stock = Stock(trees())
        program = Program(stock, groves())
        self.assertIs(program.stock, stock)
        self.assertIs(Book(program).program, program)


if __name__ == "__main__":
    unittest.main()
