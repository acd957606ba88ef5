"""Stocks for the tests. Each call makes new lists, so that a test may change them."""

import random

LETTERS = "abcdefghijklmnopqrstuvwxyz"


def steps():
    return [("num", [("none", ()), ("next", ("num",))])]


def lines():
    return steps() + [("line", [("end", ()), ("put", ("num", "line"))])]


def trees():
    return lines() + [("tree", [("leaf", ("num",)), ("fork", ("tree", "tree")), ("bag", ("wood",))]),
                      ("wood", [("lone", ("tree", "line")), ("join", ("wood", "tree"))])]


def signs():
    return [("sign", [("yes", ()), ("no", ()), ("maybe", ()), ("never", ())])]


def pairs():
    return signs() + [("pair", [("both", ("sign", "sign"))]), ("nest", [("two", ("pair", "pair"))])]


def single():
    return [("one", [("unit", ())])]


# Kinds whose parts are of kinds that come later, and back.
def rounds():
    return [("even", [("zero", ()), ("after", ("odd",)), ("twin", ("odd", "even"))]),
            ("odd", [("over", ("even",)), ("mix", ("late", "odd"))]),
            ("late", [("base", ("odd",)), ("deep", ("late", "late")), ("plain", ())])]


# A kind's least thing is of size 7, 15: at the bound that things has, and beyond it.
def towers():
    return [("ground", [("stone", ())]), ("first", [("lift", ("ground", "ground"))]),
            ("second", [("raise", ("first", "first"))]), ("third", [("crown", ("second", "second"))])]


def wide():
    return [("many", [("tip", ()), ("red", ("many",)), ("green", ("many", "many")), ("blue", ("many",))])]


ALL_SAMPLES = (steps, lines, trees, signs, pairs, single, rounds, towers, wide)


def name_of(number):
    return "n" + LETTERS[number // 26] + LETTERS[number % 26]


def random_stock(seed):
    dice = random.Random(seed)
    kinds = ["k" + LETTERS[k] for k in range(dice.randint(1, 4))]
    stock = []
    number = 0
    for k, kind in enumerate(kinds):
        makers = []
        for m in range(dice.randint(1, 4)):
            usable = kinds[:k] if m == 0 else kinds
            count = dice.randint(0, 2) if usable else 0
            makers.append((name_of(number), tuple(dice.choice(usable) for part in range(count))))
            number += 1
        stock.append((kind, makers))
    return stock
