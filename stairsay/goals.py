"""Goals: what a paper is judged for, and the goals that come of one by its branches."""

from stairsay.names import is_name
from stairsay.places import filled


# open_names and fixed_names are dicts from names to kinds; a lesser is a tuple (dict of its open names, left, right).
class Goal:
    def __init__(self, left, right, open_names, fixed_names, lessers):
        self.left = left
        self.right = right
        self.open_names = open_names
        self.fixed_names = fixed_names
        self.lessers = lessers


def goal_of_saying(saying):
    names, left, right = saying
    return Goal(left, right, dict(names), {}, [])


def all_names(goal):
    names = dict(goal.open_names)
    names.update(goal.fixed_names)
    return names


# A branch's name that stands for something already would make two things one.
def names_fit(goal, names, parts):
    if len(names) != len(parts) or len(set(names)) != len(names):
        return False
    return all([is_name(name) and not is_taken(goal, name) for name in names])


def is_taken(goal, name):
    return name in all_names(goal) or any([name in lesser[0] for lesser in goal.lessers])


def climbed_goal(goal, name, maker, names, parts):
    lessers = goal.lessers + new_lessers(goal, name, names, parts)
    return branch_goal(goal, name, maker, names, parts, lessers)


# A fixed name stands in the lessers for the same thing as in the goal; an open one is free there to be anything.
def split_goal(goal, name, maker, names, parts):
    lessers = goal.lessers
    if name in goal.fixed_names:
        lessers = [filled_lesser(lesser, {name: made_of(maker, names)}) for lesser in lessers]
    return branch_goal(goal, name, maker, names, parts, lessers)


def branch_goal(goal, name, maker, names, parts, lessers):
    put_ins = {name: made_of(maker, names)}
    fixed_names = without(goal.fixed_names, name)
    fixed_names.update(dict(zip(names, parts)))
    left = filled(goal.left, put_ins)
    right = filled(goal.right, put_ins)
    return Goal(left, right, without(goal.open_names, name), fixed_names, lessers)


# Only parts of the climbed name's own kind are lesser things that the goal may be taken to hold for.
def new_lessers(goal, name, names, parts):
    whole = (without(goal.open_names, name), goal.left, goal.right)
    kind = goal.open_names[name]
    return [filled_lesser(whole, {name: ("name", each)}) for each, part in zip(names, parts) if part == kind]


def filled_lesser(lesser, put_ins):
    open_names, left, right = lesser
    return (open_names, filled(left, put_ins), filled(right, put_ins))


def made_of(maker, names):
    return ("make", maker, tuple([("name", each) for each in names]))


def without(names, name):
    kept = {}
    for each, kind in names.items():
        if each != name:
            kept[each] = kind
    return kept
