"""Letters for kinds that aren't known yet, and what is put for them.

A kind is held here as a pair: how many rows stand around its core, the core. As nothing but rows has a kind in it,
two kinds are made the same by one look at each, however deep they are.
"""

from gapwork.errors import Clash
from gapwork.terms import in_rows, innermost, kind_deep

NUM = (0, "num")


def pair_of(kind):
    """Tells a kind as its pair."""
    return (kind_deep(kind), innermost(kind))


def row_of(pair):
    """Tells the pair of the row of a kind."""
    return (pair[0] + 1, pair[1])


class Letters:
    """Letters by numbers, and for each the pair of the kind that was put for it, or None."""

    def __init__(self):
        self.put = []

    def fresh(self):
        """Tells the pair of a letter that stands nowhere yet."""
        self.put.append(None)
        return (0, ("any", len(self.put) - 1))

    def settled(self, pair):
        """Tells a pair whose core, if it is a letter, is one for which nothing is put."""
        depth, core = pair
        while core[0] == "any" and self.put[core[1]] is not None:
            more, core = self.put[core[1]]
            depth += more
        return (depth, core)

    def make_same(self, one, other):
        """Puts for letters the least by which two kinds are the same; refuses those that can't be."""
        one = self.settled(one)
        other = self.settled(other)
        if one == other:
            return
        for (depth, core), (far, core_there) in ((one, other), (other, one)):
            # A letter that is its own core deeper within would be a kind that lies within itself.
            if core[0] == "any" and core != core_there and depth <= far:
                self.put[core[1]] = (far - depth, core_there)
                return
        raise Clash()


class Told:
    """Kinds as they are told: with letters from 0 on, as they come up."""

    def __init__(self, letters):
        self.letters = letters
        self.numbers = {}

    def kind_of(self, pair):
        """Tells the kind of a pair."""
        depth, core = self.letters.settled(pair)
        if core[0] == "any":
            core = ("any", self.numbers.setdefault(core[1], len(self.numbers)))
        return in_rows(core, depth)
