"""Programs: functions told by one row for each maker of their first argument's kind, and the kinds of expressions."""

from stairsay.errors import BadCount, BadKind, BadName, NoFunction, NoKind, NoMaker, NoName, NotLess, Twice
from stairsay.names import is_name

MOST_ARGUMENTS = 3


class Program:
    def __init__(self, stock, functions):
        self.stock = stock
        # For each function the kinds of its arguments and the kind of what it tells.
        self.heads = {}
        # For each function and each maker of its first kind the row's names and its body.
        self.rows_by_function = {}
        for function in functions:
            check_head(stock, self.heads, function)
            name, kinds, kind, others, rows = function
            # Ahead of its rows, since a function may call itself there.
            self.heads[name] = (tuple(kinds), kind)
            self.rows_by_function[name] = {}
            for maker, row in zip(stock.makers(kinds[0]), rows):
                check_row(stock, self.heads, function, maker, row)
                self.rows_by_function[name][maker] = (tuple(row[0]) + tuple(others), row[1])

    def functions(self):
        return list(self.heads)

    def kinds_of(self, function):
        if function not in self.heads:
            raise NoFunction(f"no function is called {function!r}")
        return self.heads[function]

    def row(self, function, maker):
        if function not in self.rows_by_function:
            raise NoFunction(f"no function is called {function!r}")
        if maker not in self.rows_by_function[function]:
            raise NoMaker(f"{function!r} has no row for {maker!r}")
        return self.rows_by_function[function][maker]


# What may stand in an expression. Where it is a function's body, own is the function's name and lessers are the
# expressions that its calls of itself may begin with; elsewhere own is None.
class Scope:
    def __init__(self, stock, heads, kinds_by_name, own, lessers):
        self.stock = stock
        self.heads = heads
        self.kinds_by_name = kinds_by_name
        self.own = own
        self.lessers = lessers


def kind_of(program, names, expression):
    return kind_within(Scope(program.stock, program.heads, names, None, []), expression)


def kind_within(scope, expression):
    if expression[0] == "name":
        return kind_of_name(scope, expression[1])
    form, head, arguments = expression
    wanted, kind = kinds_of_head(scope, form, head)
    if len(arguments) != len(wanted):
        raise BadCount(f"{head!r} has another number of arguments")
    if form == "call" and head == scope.own and arguments[0] not in scope.lessers:
        raise NotLess(f"{head!r} calls itself for something that is no part")
    for argument, kind_wanted in zip(arguments, wanted):
        if kind_within(scope, argument) != kind_wanted:
            raise BadKind(f"an argument of {head!r} isn't of the kind {kind_wanted!r}")
    return kind


def kind_of_name(scope, name):
    if name not in scope.kinds_by_name:
        raise NoName(f"no such name may stand here: {name!r}")
    return scope.kinds_by_name[name]


def kinds_of_head(scope, form, head):
    if form == "make":
        return (scope.stock.parts(head), scope.stock.home(head))
    if head not in scope.heads:
        raise NoFunction(f"no function that may be called here is called {head!r}")
    return scope.heads[head]


def check_head(stock, heads, function):
    name, kinds, kind, others, rows = function
    if not is_name(name):
        raise BadName(f"no name for a function: {name!r}")
    if name in heads or is_maker(stock, name):
        raise Twice(f"a function above or a maker is called {name!r}")
    if not 1 <= len(kinds) <= MOST_ARGUMENTS:
        raise BadCount(f"a function has one to three arguments: {name!r}")
    for each in list(kinds) + [kind]:
        if each not in stock.kinds():
            raise NoKind(f"no kind is called {each!r}")
    if len(others) != len(kinds) - 1:
        raise BadCount(f"{name!r} needs a name for each argument behind the first")
    if len(rows) != len(stock.makers(kinds[0])):
        raise BadCount(f"{name!r} needs a row for each maker of its first kind")


def is_maker(stock, name):
    return any([name in stock.makers(kind) for kind in stock.kinds()])


def check_row(stock, heads, function, maker, row):
    name, kinds, kind, others, rows = function
    names, body = row
    parts = stock.parts(maker)
    if len(names) != len(parts):
        raise BadCount(f"the row of {name!r} for {maker!r} needs a name for each part")
    check_names(list(names) + list(others))
    kinds_by_name = dict(zip(list(names) + list(others), list(parts) + list(kinds[1:])))
    lessers = [("name", each) for each in names if kinds_by_name[each] == kinds[0]]
    if kind_within(Scope(stock, heads, kinds_by_name, name, lessers), body) != kind:
        raise BadKind(f"the row of {name!r} for {maker!r} isn't of the kind {kind!r}")


def check_names(names):
    ahead = {}
    for name in names:
        if not is_name(name):
            raise BadName(f"no name: {name!r}")
        if name in ahead:
            raise Twice(f"two names in a row: {name!r}")
        ahead[name] = True
