"""What can be put at gaps: whether a term can, a nought for each, and a term that can't."""

from gapwork.errors import GapError
from gapwork.filled import filled
from gapwork.kinds import gap_kinds, kind_of_gap, look, open_kinds
from gapwork.terms import in_rows, innermost, kind_deep


def can_put(program, n, term):
    """Tells whether a term can be put at a gap."""
    try:
        return look(filled(program, ((n, term),), ()))
    except GapError:
        return False


def nought_of(kind, of_names):
    """Tells the nought of a kind, those of the kinds of a program being given by a dict from their names."""
    if kind[0] == "row":
        return ("row", ())
    if kind[0] == "kind":
        return of_names[kind[1]]
    return ("num", 0)


def noughts_by_name(kinds):
    """Tells a dict from the names of kinds to their noughts."""
    told = {}
    # A kind has none but those ahead in it, so their noughts are there already.
    for name, tags in kinds:
        tag, inner = tags[0]
        told[name] = ("tag", tag, tuple([nought_of(kind, told) for kind in inner]))
    return told


def without_letter(kind):
    """Tells a kind with num in the place of its letter."""
    return in_rows("num", kind_deep(kind)) if innermost(kind)[0] == "any" else kind


def noughts(program):
    """Tells fillings by noughts for all gaps: a tuple for gaps of terms, a tuple for open kinds."""
    of_names = noughts_by_name(program[0])
    terms = [(n, nought_of(kind, of_names)) for n, (names, kind) in gap_kinds(program).items()]
    kinds = [(n, without_letter(kind)) for n, kind in open_kinds(program).items()]
    return (tuple(terms), tuple(kinds))


def breaker(program, n):
    """Tells a term without names, calls and gaps that can't be put at a gap; None where there is none."""
    names, kind = kind_of_gap(program, n)
    if kind[0] == "any":
        return None
    return ("row", ()) if kind == "num" else ("num", 0)
