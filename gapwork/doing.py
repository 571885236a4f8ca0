"""Terms gone through, and the rows of a sheet done, round gaps.

A row of a sheet is what is to be done, with all that it looks at told; what can't be done yet is written just so.
Nothing here calls itself: what is yet to be done waits in a list, as programs that are filled may be very deep.
"""

from gapwork.errors import TooLong
from gapwork.programs import bound_to
from gapwork.terms import inner_terms
from gapwork.words import WIDE


class Work:
    """What was done so far, and what is yet to be done, of a run."""

    def __init__(self, program, most):
        # By defs' names: the names of the params, the term.
        self.defs = {name: ([param for param, kind in params], term) for name, params, term in program[1]}
        self.most = most
        self.many = 0
        self.rows = []
        self.failed = False
        # What is told and not taken yet, and what waits, the next of it last.
        self.told = []
        self.waiting = []

    def tell(self, thing):
        """Keeps a thing for what takes it."""
        self.told.append(thing)

    def take(self, many):
        """Tells the things that were told last, in order, and keeps them no more."""
        things = [self.told.pop() for each in range(many)]
        return things[::-1]

    def do_one(self):
        """Counts a doing."""
        self.many += 1
        if self.many > self.most:
            raise TooLong(self.most)

    def write(self, row):
        """Writes what can't be done as the sheet's next row, and tells what is left of it."""
        self.tell(("left", len(self.rows)))
        self.rows.append(row)

    def go_into(self, term, around):
        """Lets a term wait, as the next of all, with what is at hand."""
        self.waiting.append(("term", term, around))


def is_left(thing):
    """Tells whether a thing is a left."""
    return thing[0] == "left"


def op_number(sign, a, b):
    """Tells what an op makes of two numbers."""
    if sign == "+":
        return (a + b) % WIDE
    if sign == "-":
        return (a - b) % WIDE
    if sign == "*":
        return (a * b) % WIDE
    if sign == ":":
        return a % b
    if sign == "<":
        return 1 if a < b else 0
    return 1 if a == b else 0


def do_gap(work, row):
    """A gap, which is always written."""
    work.write(row)


def do_op(work, row):
    """An op."""
    form, sign, a, b = row
    if sign == ":" and b == ("num", 0):
        work.failed = True
    elif is_left(a) or is_left(b):
        work.write(row)
    else:
        work.do_one()
        work.tell(("num", op_number(sign, a[1], b[1])))


def do_more(work, row):
    """A more."""
    form, a, b = row
    if is_left(b):
        work.write(row)
    else:
        work.do_one()
        work.tell(("row", (a,) + b[1]))


def do_first(work, row):
    """A first, or an others."""
    form, a = row
    if is_left(a):
        work.write(row)
    elif not a[1]:
        work.failed = True
    else:
        work.do_one()
        work.tell(a[1][0] if form == "first" else ("row", a[1][1:]))


def do_long(work, row):
    """A long."""
    form, a = row
    if is_left(a):
        work.write(row)
    else:
        work.do_one()
        work.tell(("num", len(a[1])))


def do_match(work, row):
    """A match, by the arm of its thing's tag."""
    form, a, arms, around = row
    if is_left(a):
        work.write(row)
    else:
        work.do_one()
        by_tag = {tag: (names, inner) for tag, names, inner in arms}
        names, inner = by_tag[a[1]]
        work.go_into(inner, bound_to(around, names, a[2]))


def do_if(work, row):
    """An if."""
    form, a, b, c, around = row
    if is_left(a):
        work.write(row)
    else:
        work.do_one()
        work.go_into(c if a[1] == 0 else b, around)


def do_fold(work, row):
    """A fold, by its rounds."""
    form, a, x, y, begun, c, around = row
    if is_left(a):
        work.write(row)
    else:
        work.tell(begun)
        work.waiting.append(("round", row, 0))


DEEDS = {
    "gap": do_gap, "op": do_op, "more": do_more, "first": do_first, "others": do_first, "long": do_long,
    "match": do_match, "if": do_if, "fold": do_fold,
}


def do_row(work, row):
    """Does what a row of a sheet says, as far as it can be done; what it goes into waits."""
    deed = DEEDS[row[0]]
    deed(work, row)


def go_round(work, task):
    """Goes the next round of a fold, if there is one, with what came so far."""
    word, row, at = task
    form, (sort, things), x, y, begun, c, around = row
    if at < len(things):
        work.do_one()
        so_far = work.take(1)[0]
        work.waiting.append(("round", row, at + 1))
        work.go_into(c, bound_to(around, (x, y), (things[at], so_far)))


def told_ahead(term):
    """Tells the terms right in a term that are gone through ahead of the term itself, in order."""
    form = term[0]
    inner = inner_terms(term)
    if form == "fold":
        return inner[:2]
    return inner[:1] if form in ("match", "if", "let") else inner


def begin_term(work, task):
    """Begins to go through a term: what must be told ahead of it waits, and behind that itself."""
    word, term, around = task
    form = term[0]
    if form == "num":
        work.tell(term)
    elif form == "name":
        work.tell(dict(around)[term[1]])
    else:
        work.waiting.append(("rest", term, around))
        for inner in told_ahead(term)[::-1]:
            work.go_into(inner, around)


def row_of_term(term, things, around):
    """Tells the row of a sheet by which a term is done, with the things that were told ahead of it."""
    form = term[0]
    if form == "gap":
        return ("gap", term[1], around)
    if form == "op":
        return ("op", term[1], things[0], things[1])
    if form == "match":
        return ("match", things[0], term[2], around)
    if form == "if":
        return ("if", things[0], term[2], term[3], around)
    if form == "fold":
        return ("fold", things[0], term[2], term[3], things[1], term[5], around)
    return (form,) + tuple(things)


def end_term(work, task):
    """Goes through a term to its end, what it needs being told."""
    word, term, around = task
    form = term[0]
    things = work.take(len(told_ahead(term)))
    if form == "row":
        work.tell(("row", tuple(things)))
    elif form == "tag":
        work.tell(("tag", term[1], tuple(things)))
    elif form == "let":
        work.go_into(term[3], bound_to(around, (term[1],), things))
    elif form == "call":
        work.do_one()
        names, inner = work.defs[term[1]]
        work.go_into(inner, bound_to((), names, things))
    else:
        do_row(work, row_of_term(term, things, around))


TASKS = {"term": begin_term, "rest": end_term, "round": go_round}


def finish(work):
    """Does all that waits, and tells the thing that comes of it; None where a fault comes."""
    while work.waiting and not work.failed:
        task = work.waiting.pop()
        deed = TASKS[task[0]]
        deed(work, task)
    return None if work.failed else work.take(1)[0]
