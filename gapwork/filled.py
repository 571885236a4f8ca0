"""Programs whose gaps are filled."""

from gapwork.errors import NoGap, Twice
from gapwork.programs import gaps
from gapwork.terms import gaps_in, in_rows, innermost, kind_deep, with_gaps_put


def opens_in(kind):
    """Tells a list of the numbers of the open kinds in a kind: one or none."""
    core = innermost(kind)
    return [core[1]] if core[0] == "open" else []


def look_fillings(fillings, there, gaps_of):
    """Refuses fillings for gaps of which these are there, where gaps_of tells the gaps in what is put."""
    numbers = [n for n, put in fillings]
    for n in numbers:
        if n not in there:
            raise NoGap(n)
    for at, n in enumerate(numbers):
        if n in numbers[:at]:
            raise Twice(n)
    ahead = [n for n in there if n not in numbers]
    for n, put in fillings:
        for gap in gaps_of(put):
            if gap in ahead:
                raise Twice(gap)
            ahead.append(gap)


def kind_put(kind, puts):
    """Tells a kind with the one that is put, by a dict from open kinds' numbers, in the place of its open one."""
    core = innermost(kind)
    if core[0] != "open":
        return kind
    return in_rows(puts.get(core[1], core), kind_deep(kind))


def filled(program, terms, kinds):
    """Tells the program with these fillings, of gaps of terms and of open kinds, at their places."""
    of_terms, of_kinds = gaps(program)
    look_fillings(kinds, of_kinds, opens_in)
    look_fillings(terms, of_terms, gaps_in)
    defs = []
    for name, params, term in program[1]:
        put_params = tuple([(param, kind_put(kind, dict(kinds))) for param, kind in params])
        defs.append((name, put_params, with_gaps_put(term, dict(terms))))
    return (program[0], tuple(defs))
