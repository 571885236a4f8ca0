"""The kinds of a program, found: whether they are right, and the least that gaps and open kinds must have."""

from gapwork.errors import NoGap
from gapwork.names import look_names
from gapwork.programs import bound_to, tags_of
from gapwork.terms import right_in
from gapwork.unify import NUM, Letters, Told, pair_of, row_of


class Finding:
    """What is found of a program's kinds, all of them held as the pairs of gapwork.unify."""

    def __init__(self, program):
        self.letters = Letters()
        self.tags = tags_of(program)
        # By gaps' numbers: the names at hand with their kinds, the gap's kind.
        self.gaps = {}
        self.opens = {}
        # By defs' names: the kinds of the params, the kind of the term.
        self.defs = {}


def unbound(pairs):
    """Tells kinds of terms right in a term that binds no names."""
    return [((), pair) for pair in pairs]


# Each of these is handed a term and its kind, and tells of the terms right in it, in order: the kinds of the names
# that are bound there, the inner term's kind.


def in_number(finding, term, pair):
    """A number."""
    finding.letters.make_same(pair, NUM)
    return []


def in_op(finding, term, pair):
    """An op of two numbers."""
    finding.letters.make_same(pair, NUM)
    return unbound([NUM, NUM])


def in_row(finding, term, pair):
    """A row, all of whose terms have one kind."""
    inner = finding.letters.fresh()
    finding.letters.make_same(pair, row_of(inner))
    return unbound([inner for each in term[1]])


def in_more(finding, term, pair):
    """A more."""
    inner = finding.letters.fresh()
    finding.letters.make_same(pair, row_of(inner))
    return unbound([inner, pair])


def in_first(finding, term, pair):
    """A first."""
    return unbound([row_of(pair)])


def in_others(finding, term, pair):
    """An others, which is a row as well as what it is of."""
    finding.letters.make_same(pair, row_of(finding.letters.fresh()))
    return unbound([pair])


def in_long(finding, term, pair):
    """A long, of a row of whatever kind."""
    finding.letters.make_same(pair, NUM)
    return unbound([row_of(finding.letters.fresh())])


def in_tag(finding, term, pair):
    """A tag."""
    name, inner = finding.tags[term[1]]
    finding.letters.make_same(pair, (0, ("kind", name)))
    return unbound([pair_of(kind) for kind in inner])


def in_match(finding, term, pair):
    """A match, whose arms all have its kind."""
    arms = term[2]
    name, inner = finding.tags[arms[0][0]]
    told = unbound([(0, ("kind", name))])
    for tag, names, body in arms:
        told.append(([pair_of(kind) for kind in finding.tags[tag][1]], pair))
    return told


def in_if(finding, term, pair):
    """An if."""
    return unbound([NUM, pair, pair])


def in_let(finding, term, pair):
    """A let."""
    given = finding.letters.fresh()
    return [((), given), ((given,), pair)]


def in_fold(finding, term, pair):
    """A fold."""
    inner = finding.letters.fresh()
    return [((), row_of(inner)), ((), pair), ((inner, pair), pair)]


def in_call(finding, term, pair):
    """A call, of a def that has its one kind wherever it is called."""
    params, told = finding.defs[term[1]]
    finding.letters.make_same(pair, told)
    return unbound(params)


INNER = {
    "num": in_number, "op": in_op, "row": in_row, "more": in_more, "first": in_first, "others": in_others,
    "long": in_long, "tag": in_tag, "match": in_match, "if": in_if, "let": in_let, "fold": in_fold, "call": in_call,
}


def find_term(finding, around, term, pair):
    """Finds the kinds of all parts of a term that has a kind, with the names at hand and their kinds."""
    waiting = [(around, term, pair)]
    while waiting:
        around, here, pair = waiting.pop()
        if here[0] == "name":
            finding.letters.make_same(pair, dict(around)[here[1]])
        elif here[0] == "gap":
            finding.gaps[here[1]] = (around, pair)
        else:
            inner = INNER[here[0]]
            for (names, part), (kinds, kind) in zip(right_in(here), inner(finding, here, pair)):
                waiting.append((bound_to(around, names, kinds), part, kind))


def param_pair(finding, kind):
    """Tells the pair of a param's kind, with a letter in the place of an open one."""
    depth, core = pair_of(kind)
    if core[0] != "open":
        return (depth, core)
    finding.opens[core[1]] = finding.letters.fresh()
    return (depth, finding.opens[core[1]][1])


def found(program):
    """Tells what is found of a program's kinds; refuses one whose names or kinds aren't right."""
    look_names(program)
    finding = Finding(program)
    for name, params, term in program[1]:
        pairs = [param_pair(finding, kind) for param, kind in params]
        told = finding.letters.fresh()
        find_term(finding, bound_to((), [param for param, kind in params], pairs), term, told)
        finding.defs[name] = (pairs, told)
    return finding


def look(program):
    """Tells True of a program whose names and kinds are right; refuses it otherwise."""
    found(program)
    return True


def all_kinds(program):
    """Tells two dicts by rising numbers: of gaps of terms, of open kinds."""
    finding = found(program)
    told = Told(finding.letters)
    gaps = {}
    for n, (around, pair) in sorted(finding.gaps.items()):
        names = tuple([(name, told.kind_of(kind)) for name, kind in around])
        gaps[n] = (names, told.kind_of(pair))
    return (gaps, {n: told.kind_of(pair) for n, pair in sorted(finding.opens.items())})


def gap_kinds(program):
    """Tells a dict from the numbers of gaps of terms to (names, kind): the names at hand with their kinds, its own."""
    return all_kinds(program)[0]


def kind_of_gap(program, n):
    """Tells (names, kind) of one gap of a term."""
    told = gap_kinds(program)
    if n not in told:
        raise NoGap(n)
    return told[n]


def open_kinds(program):
    """Tells a dict from the numbers of open kinds to their kinds."""
    return all_kinds(program)[1]


def last_kinds(program):
    """Tells the kinds of the last def's params, as a tuple, and of its term."""
    finding = found(program)
    told = Told(finding.letters)
    params, pair = finding.defs[program[1][-1][0]]
    return (tuple([told.kind_of(param) for param in params]), told.kind_of(pair))


def is_of(program, thing, kind):
    """Tells whether a closed thing is of a kind."""
    tags = tags_of(program)
    waiting = [(thing, kind)]
    while waiting:
        here, wanted = waiting.pop()
        if here[0] == "num" and wanted == "num":
            continue
        if here[0] == "row" and wanted[0] == "row":
            waiting.extend([(inner, wanted[1]) for inner in here[1]])
        elif here[0] == "tag" and here[1] in tags and wanted == ("kind", tags[here[1]][0]):
            kinds = tags[here[1]][1]
            if len(kinds) != len(here[2]):
                return False
            waiting.extend(list(zip(here[2], kinds)))
        else:
            return False
    return True
