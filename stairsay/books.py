"""Books: sayings entered one after the other, each with a paper that shows it by those ahead of it."""

from stairsay.errors import NoSaying, NotShown
from stairsay.papers import shows, sided


class Book:
    def __init__(self, program):
        self.program = program
        # Pairs (saying, paper), in the order in which they were entered.
        self.entries = []

    def enter(self, saying, paper):
        sided(self.program, saying)
        if not shows(self.program, self.sayings(), saying, paper):
            raise NotShown("the paper isn't good for the saying")
        self.entries.append((saying, paper))

    def sayings(self):
        return [saying for saying, paper in self.entries]

    def reason(self, k):
        if not 0 <= k < len(self.entries):
            raise NoSaying(f"there is no saying of the number {k}")
        return self.entries[k][1]
