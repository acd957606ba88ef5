"""Runs: what expressions are worth, within bounds."""

from stairsay.errors import TooLong
from stairsay.things import layer_counts

MOST_DEEP_CALLS = 20
MOST_SIZE = 300
MOST_DEEP = 40


def run(program, setting, expression, most):
    names = {}
    for name, thing in setting.items():
        names[name] = weighed(thing)
    return Run(program, most).worth(names, expression)


# A thing with its size and how deep it is, so that no thing has to be gone through again for each maker around it.
def weighed(thing):
    counts = layer_counts(thing)
    return (thing, sum(counts), len(counts))


# What waits is kept in lists and not in calls within calls: deep bodies in deep calls would need too many of them.
class Run:
    def __init__(self, program, most):
        self.program = program
        self.calls_left = most
        # Tuples (expression, its names, how deep a call in it is, whether its arguments are worked out), next one last.
        self.waiting = []
        # The weighed things that are worked out and not yet used, newest last.
        self.worths = []

    def worth(self, names, expression):
        self.waiting.append((expression, names, 1, False))
        while self.waiting:
            part, names_here, deep, ready = self.waiting.pop()
            if part[0] == "name":
                self.worths.append(names_here[part[1]])
            elif not ready:
                self.await_arguments(part, names_here, deep)
            elif part[0] == "make":
                self.worths.append(made(part[1], self.taken(len(part[2]))))
            else:
                self.await_body(part[1], self.taken(len(part[2])), deep)
        return self.worths[0][0]

    def await_arguments(self, part, names, deep):
        self.waiting.append((part, names, deep, True))
        for argument in reversed(part[2]):
            self.waiting.append((argument, names, deep, False))

    def await_body(self, function, arguments, deep):
        if self.calls_left <= 0:
            raise TooLong("there are too many calls")
        if deep > MOST_DEEP_CALLS:
            raise TooLong("a call is too deep")
        self.calls_left -= 1
        maker, parts = arguments[0][0]
        names, body = self.program.row(function, maker)
        values = [weighed(part) for part in parts] + arguments[1:]
        self.waiting.append((body, dict(zip(names, values)), deep + 1, False))

    def taken(self, count):
        newest_first = []
        for each in range(count):
            newest_first.append(self.worths.pop())
        return list(reversed(newest_first))


def made(maker, parts):
    whole = 1 + sum([part[1] for part in parts])
    deep = 1 + max([part[2] for part in parts], default=0)
    if whole > MOST_SIZE or deep > MOST_DEEP:
        raise TooLong("a thing is too great or too deep")
    return ((maker, tuple([part[0] for part in parts])), whole, deep)
