"""Moves: the steps by which lessers and sayings shown could change an expression."""

from stairsay.places import arguments_of, matched
from stairsay.steps import told_by
from stairsay.things import least


# The expression and all within it as pairs (place, part), each one behind the one that it is an argument of.
def parts_within(expression):
    found = [((), expression)]
    waiting = [((), expression)]
    while waiting:
        place, whole = waiting.pop()
        inner = [(place + (k,), argument) for k, argument in enumerate(arguments_of(whole))]
        found.extend(inner)
        waiting.extend(inner)
    return found


# Not all of them are good: the names that a lesser has besides its open ones stand for themselves alone.
def moves(program, shown, goal, expression):
    grounds = [("lesser", k) for k in range(len(goal.lessers))] + [("shown", k) for k in range(len(shown))]
    found = []
    for ground in grounds:
        names, first, second = told_by(program, shown, goal, ground)
        for place, part in parts_within(expression):
            for back, side in [(False, first), (True, second)]:
                put_ins = put_ins_for(program.stock, names, side, part)
                if put_ins is not None:
                    found.append((place, ground, back, put_ins))
    return found


# What is to be put in for the names so that the side comes to the part, or None.
def put_ins_for(stock, names, side, part):
    # A name alone comes to anything: nothing would be left out.
    if side[0] == "name":
        return None
    found = matched(side, part)
    if found is None:
        return None
    return tuple([(name, found.get(name, least_of(stock, names[name]))) for name in names])


def least_of(stock, kind):
    return written(least(stock, kind))


# A thing as the expression that makes it.
def written(thing):
    maker, parts = thing
    return ("make", maker, tuple([written(part) for part in parts]))
