"""Steps: their grounds, and what a good one makes of an expression."""

from stairsay.errors import NoPlace, SayError
from stairsay.goals import all_names, made_of
from stairsay.places import filled, part_at, put_at
from stairsay.programs import kind_of


# What the step makes of the expression, or None where the step isn't good.
def stepped(program, shown, goal, expression, step):
    place, ground, back, put_ins = step
    told = told_by(program, shown, goal, ground)
    if told is None:
        return None
    names, first, second = told
    if not put_ins_fit(program, goal, names, put_ins):
        return None
    if back:
        return exchanged(expression, place, filled(second, dict(put_ins)), filled(first, dict(put_ins)))
    return exchanged(expression, place, filled(first, dict(put_ins)), filled(second, dict(put_ins)))


def exchanged(expression, place, old, new):
    try:
        there = part_at(expression, place)
    except NoPlace:
        return None
    return put_at(expression, place, new) if there == old else None


# A ground as a tuple (dict of the names that are put in to their kinds, first side, second side), or None.
def told_by(program, shown, goal, ground):
    if ground[0] == "row":
        return told_by_row(program, ground[1], ground[2])
    if ground[0] == "shown":
        return told_by_number(shown, ground[1])
    if ground[0] == "lesser":
        return told_by_number(goal.lessers, ground[1])
    return None


def told_by_row(program, function, maker):
    try:
        names, body = program.row(function, maker)
    except SayError:
        return None
    parts = program.stock.parts(maker)
    own, others = names[:len(parts)], names[len(parts):]
    arguments = (made_of(maker, own),) + tuple([("name", other) for other in others])
    kinds = parts + program.kinds_of(function)[0][1:]
    return (dict(zip(names, kinds)), ("call", function, arguments), body)


def told_by_number(sayings, number):
    if not 0 <= number < len(sayings):
        return None
    names, left, right = sayings[number]
    return (dict(names), left, right)


def put_ins_fit(program, goal, names, put_ins):
    if len(put_ins) != len(names) or set([name for name, expression in put_ins]) != set(names):
        return False
    goal_names = all_names(goal)
    return all([has_kind(program, goal_names, expression, names[name]) for name, expression in put_ins])


def has_kind(program, names, expression, kind):
    try:
        return kind_of(program, names, expression) == kind
    except SayError:
        return False
