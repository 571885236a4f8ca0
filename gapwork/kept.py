"""Runs that are kept and filled piece by piece."""

from gapwork.errors import NoGap
from gapwork.filled import filled
from gapwork.runs import run
from gapwork.sheets import sheet_filled


class Kept:
    """A program and what came of its run, as it stands behind the fillings so far."""

    def __init__(self, program, inputs, most):
        self.most = most
        # Pairs of a program and its outcome: as it was made, and behind each filling, the last being how it stands.
        self.states = [(program, run(program, inputs, most))]

    def program(self):
        """Tells the program as it is filled."""
        return self.states[-1][0]

    def outcome(self):
        """Tells a fault, or a sheet and how many doings were done in all."""
        return self.states[-1][1]

    def fill(self, terms, kinds):
        """Fills gaps, and tells how many doings were done anew: none where a fault comes, or was."""
        program, before = self.states[-1]
        put = filled(program, terms, kinds)
        came = before if before[0] == "fault" else sheet_filled(program, before[1], terms, kinds, self.most)
        if came[0] == "fault":
            self.states.append((put, came))
            return 0
        word, sheet, many = came
        self.states.append((put, (word, sheet, before[2] + many)))
        return many

    def back(self):
        """Takes the last filling back."""
        if len(self.states) == 1:
            raise NoGap(-1)
        self.states.pop()
