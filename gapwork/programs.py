"""Programs: their gaps, and the names at hand there."""

from gapwork.errors import NoGap
from gapwork.terms import gaps_in, innermost, right_in


def gaps(program):
    """Tells two lists: the numbers of a program's gaps of terms and of its open kinds, each as they stand."""
    kinds, defs = program
    of_terms = []
    of_kinds = []
    for name, params, term in defs:
        of_terms.extend(gaps_in(term))
        cores = [innermost(kind) for param, kind in params]
        of_kinds.extend([core[1] for core in cores if core[0] == "open"])
    return (of_terms, of_kinds)


def bound(names, others):
    """Tells names at hand with others bound nearer, each once, at the place where it was bound nearest."""
    for other in others:
        names = tuple([name for name in names if name != other]) + (other,)
    return names


def at_hand(program, n):
    """Tells the names at hand at the gap of a term of this number, in the order in which they are bound."""
    kinds, defs = program
    for name, params, term in defs:
        waiting = [(bound((), [param for param, kind in params]), term)]
        while waiting:
            names, here = waiting.pop()
            if here == ("gap", n):
                return names
            waiting.extend([(bound(names, others), inner) for others, inner in right_in(here)][::-1])
    raise NoGap(n)
