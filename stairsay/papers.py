"""Papers: written reasons by which a saying holds for all things."""

from stairsay.errors import BadKind, BadName, NoKind, Twice
from stairsay.goals import all_names, climbed_goal, goal_of_saying, names_fit, split_goal
from stairsay.names import is_name
from stairsay.programs import kind_of
from stairsay.steps import stepped


def sided(program, saying):
    names, left, right = saying
    check_pairs(program.stock, names)
    kind = kind_of(program, dict(names), left)
    if kind_of(program, dict(names), right) != kind:
        raise BadKind("the sides are of two kinds")
    return kind


def check_pairs(stock, pairs):
    ahead = {}
    for name, kind in pairs:
        if not is_name(name):
            raise BadName(f"no name: {name!r}")
        if name in ahead:
            raise Twice(f"two names of a saying: {name!r}")
        if kind not in stock.kinds():
            raise NoKind(f"no kind is called {kind!r}")
        ahead[name] = True


def shows(program, shown, saying, paper):
    return is_good(program, shown, goal_of_saying(saying), paper)


def is_good(program, shown, goal, paper):
    if paper[0] == "steps":
        return steps_lead(program, shown, goal, paper[1])
    return branches_lead(program, shown, goal, paper)


def steps_lead(program, shown, goal, steps):
    expression = goal.left
    for step in steps:
        expression = stepped(program, shown, goal, expression, step)
        if expression is None:
            return False
    return expression == goal.right


def branches_lead(program, shown, goal, paper):
    form, name, branches = paper
    names = goal.open_names if form == "climb" else all_names(goal)
    if name not in names:
        return False
    makers = program.stock.makers(names[name])
    if len(branches) != len(makers):
        return False
    for maker, branch in zip(makers, branches):
        if not branch_leads(program, shown, goal, form, name, maker, branch):
            return False
    return True


def branch_leads(program, shown, goal, form, name, maker, branch):
    names, paper = branch
    parts = program.stock.parts(maker)
    if not names_fit(goal, names, parts):
        return False
    if form == "climb":
        return is_good(program, shown, climbed_goal(goal, name, maker, names, parts), paper)
    return is_good(program, shown, split_goal(goal, name, maker, names, parts), paper)
