"""Closed things by numbers, so that two are the same just where their numbers are, however great and deep they are."""

from gapwork.things import inner_things
from gapwork.trees import from_below


class Store:
    """Things, each once: the same thing has the same number."""

    def __init__(self):
        # By numbers: a thing with the numbers of the things right in it in their place, and the thing itself.
        self.makings = []
        self.things = []
        self.numbers = {}

    def number_of(self, making):
        """Tells the number of a thing, given with the numbers of the things right in it in their place."""
        if making not in self.numbers:
            self.numbers[making] = len(self.makings)
            self.makings.append(making)
            inner = tuple([self.things[number] for number in inner_things(making)])
            self.things.append(making[:-1] + (inner,) if inner else making)
        return self.numbers[making]

    def keep(self, thing):
        """Tells the number of a thing."""
        def make(here, inner):
            return self.number_of(here[:-1] + (tuple(inner),) if inner else here)

        return from_below(thing, inner_things, make)
