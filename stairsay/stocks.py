"""Stocks: kinds of things, and the makers that their things are built of."""

from stairsay.errors import BadCount, BadName, Groundless, NoKind, NoMaker, Twice
from stairsay.names import is_name

MOST_KINDS = 4
MOST_MAKERS = 4
MOST_PARTS = 2


class Stock:
    def __init__(self, kinds):
        check_kinds(kinds)
        check_makers(kinds)
        # Copies throughout: the lists handed in stay their owner's to change.
        self.makers_by_kind = {}
        self.parts_by_maker = {}
        self.home_by_maker = {}
        for kind, makers in kinds:
            self.makers_by_kind[kind] = [maker for maker, parts in makers]
            for maker, parts in makers:
                self.parts_by_maker[maker] = tuple(parts)
                self.home_by_maker[maker] = kind

    def kinds(self):
        return list(self.makers_by_kind)

    def makers(self, kind):
        if kind not in self.makers_by_kind:
            raise NoKind(f"no kind is called {kind!r}")
        return list(self.makers_by_kind[kind])

    def parts(self, maker):
        if maker not in self.parts_by_maker:
            raise NoMaker(f"no maker is called {maker!r}")
        return self.parts_by_maker[maker]

    def home(self, maker):
        if maker not in self.home_by_maker:
            raise NoMaker(f"no maker is called {maker!r}")
        return self.home_by_maker[maker]


def check_kinds(kinds):
    if not 1 <= len(kinds) <= MOST_KINDS:
        raise BadCount("a stock has one to four kinds")
    above = {}
    for kind, makers in kinds:
        if not is_name(kind):
            raise BadName(f"no name for a kind: {kind!r}")
        if kind in above:
            raise Twice(f"two kinds are called {kind!r}")
        if not 1 <= len(makers) <= MOST_MAKERS:
            raise BadCount(f"a kind has one to four makers: {kind!r}")
        above[kind] = True


def check_makers(kinds):
    all_kinds = [kind for kind, makers in kinds]
    kinds_above = []
    makers_ahead = {}
    for kind, makers in kinds:
        first = makers[0][0]
        for maker, parts in makers:
            check_maker(maker, parts, makers_ahead, all_kinds)
            # No later maker is called like the first one: that would have been refused.
            if maker == first:
                check_ground(maker, parts, kinds_above)
            makers_ahead[maker] = True
        kinds_above.append(kind)


def check_maker(maker, parts, makers_ahead, all_kinds):
    if not is_name(maker):
        raise BadName(f"no name for a maker: {maker!r}")
    if maker in makers_ahead:
        raise Twice(f"two makers are called {maker!r}")
    if len(parts) > MOST_PARTS:
        raise BadCount(f"a maker has at most two parts: {maker!r}")
    for part in parts:
        if part not in all_kinds:
            raise NoKind(f"no kind is called {part!r}")


# A first maker that draws on kinds above alone can always be used, so no kind stays without things.
def check_ground(maker, parts, kinds_above):
    for part in parts:
        if part not in kinds_above:
            raise Groundless(f"a part of the first maker {maker!r} is of no kind above: {part!r}")
