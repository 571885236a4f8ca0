"""Programs: their gaps, and the names at hand there."""

from gapwork.errors import NoGap
from gapwork.terms import gaps_in, innermost, right_in


def gaps(program):
    """Tells two lists: the numbers of a program's gaps of terms and of its open kinds, each as they stand."""
    kinds, defs = program
    of_terms = []
    of_kinds = []
    for name, params, term in defs:
        of_terms.extend(gaps_in(term))
        cores = [innermost(kind) for param, kind in params]
        of_kinds.extend([core[1] for core in cores if core[0] == "open"])
    return (of_terms, of_kinds)


def bound(names, others):
    """Tells names at hand with others bound nearer, each once, at the place where it was bound nearest."""
    for other in others:
        names = tuple([name for name in names if name != other]) + (other,)
    return names


def bound_to(around, names, things):
    """Tells the pairs of names at hand and what they stand for, with other names, no two alike, bound nearer."""
    return tuple([pair for pair in around if pair[0] not in names]) + tuple(zip(names, things))


def places(params, term):
    """Tells a list of a def's places, in order, as pairs: the names at hand there, the term that stands there."""
    told = []
    waiting = [(bound((), [param for param, kind in params]), term)]
    while waiting:
        names, here = waiting.pop()
        told.append((names, here))
        waiting.extend([(bound(names, others), inner) for others, inner in right_in(here)][::-1])
    return told


def at_hand(program, n):
    """Tells the names at hand at the gap of a term of this number, in the order in which they are bound."""
    kinds, defs = program
    for name, params, term in defs:
        for names, here in places(params, term):
            if here == ("gap", n):
                return names
    raise NoGap(n)


def tags_of(program):
    """Tells a dict from a program's tags to pairs: the name of the tag's kind, the kinds of its parts."""
    kinds, defs = program
    return {tag: (name, inner) for name, tags in kinds for tag, inner in tags}
