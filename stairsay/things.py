"""Things: what the makers of a stock build, their sizes and their order."""

from stairsay.errors import NoKind

MOST_SIZE = 7


# Layer after layer and not by recursion, so that how deep a thing is doesn't matter.
def is_thing(stock, kind, thing):
    if kind not in stock.kinds():
        return False
    layer = [(kind, thing)]
    while layer:
        below = []
        for wanted, piece in layer:
            if not has_form(stock, wanted, piece):
                return False
            below.extend(list(zip(stock.parts(piece[0]), piece[1])))
        layer = below
    return True


def has_form(stock, kind, thing):
    maker = thing[0]
    return maker in stock.makers(kind) and len(thing[1]) == len(stock.parts(maker))


# How many makers stand in each layer, from the outside inwards.
def layer_counts(thing):
    counts = []
    layer = [thing]
    while layer:
        counts.append(len(layer))
        below = []
        for maker, parts in layer:
            below.extend(parts)
        layer = below
    return counts


def size(thing):
    return sum(layer_counts(thing))


def least(stock, kind):
    maker = stock.makers(kind)[0]
    return (maker, tuple([least(stock, part) for part in stock.parts(maker)]))


def things(stock, kind, most):
    if kind not in stock.kinds():
        raise NoKind(f"no kind is called {kind!r}")
    told = []
    made = {}
    for whole in range(1, MOST_SIZE + 1):
        # All kinds, since greater things of this kind may have parts of any.
        for each in stock.kinds():
            made[(each, whole)] = things_of_size(stock, each, whole, made)
        told.extend(made[(kind, whole)])
        if len(told) >= most:
            break
    return told[:most]


# made holds, for each kind and each lesser size, the things in their order.
def things_of_size(stock, kind, whole, made):
    found = []
    for maker in stock.makers(kind):
        for parts in rows_of_size(stock.parts(maker), whole - 1, made):
            found.append((maker, parts))
    return found


# The first part changes last, lesser sizes first: that is the order of things of one maker.
def rows_of_size(kinds, whole, made):
    if not kinds:
        return [()] if whole == 0 else []
    rows = []
    for first_size in range(1, whole + 1):
        behind = rows_of_size(kinds[1:], whole - first_size, made)
        for first in made[(kinds[0], first_size)]:
            rows.extend([(first,) + row for row in behind])
    return rows
