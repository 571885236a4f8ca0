"""What gaps must tell where they are come to, from inputs and wanted answers."""

from gapwork.doing import Work, finish
from gapwork.runs import run
from gapwork.things import closed, inner_things, label, same
from gapwork.words import WIDE


class Backward:
    """A sheet gone through backward: what is wanted of its rows, and what comes of that."""

    def __init__(self, rows):
        self.rows = rows
        # By rows' numbers: the thing that is wanted of the row.
        self.wanted = {}
        # Whether no filling can do it; whether it can't be told.
        self.never = False
        self.unclear = False
        # Of gaps' rows: the gap's number, the row's, what is around, the thing or None.
        self.found = []

    def want_row(self, at, wanted):
        """Keeps that a row must tell a thing."""
        if not same(self.wanted.setdefault(at, wanted), wanted):
            self.never = True

    def want(self, thing, answer):
        """Goes through what must be so that a thing is a closed one."""
        waiting = [(thing, answer)]
        while waiting:
            here, wanted = waiting.pop()
            if here[0] == "left":
                self.want_row(here[1], wanted)
            elif label(here) != label(wanted):
                self.never = True
            else:
                waiting.extend(list(zip(inner_things(here), inner_things(wanted))))


def want_op(back, row, wanted):
    """Goes on with an op that must tell a number."""
    form, sign, a, b = row
    if sign == "+" and a[0] == "num":
        back.want(b, ("num", (wanted[1] - a[1]) % WIDE))
    elif sign == "+" and b[0] == "num":
        back.want(a, ("num", (wanted[1] - b[1]) % WIDE))
    elif sign == "-" and a[0] == "num":
        back.want(b, ("num", (a[1] - wanted[1]) % WIDE))
    elif sign == "-" and b[0] == "num":
        back.want(a, ("num", (wanted[1] + b[1]) % WIDE))
    else:
        back.unclear = True


def want_more(back, row, wanted):
    """Goes on with a more that must tell a row."""
    form, a, b = row
    things = wanted[1]
    if things:
        back.want(a, things[0])
        back.want(b, ("row", things[1:]))
    else:
        back.never = True


def may_fail(row):
    """Tells whether a row that is no gap's may come to a fault."""
    return row[1] == ":" if row[0] == "op" else row[0] not in ("more", "long")


def go_back(back, at):
    """Goes on with a row, all that is wanted of it being known."""
    row = back.rows[at]
    form = row[0]
    wanted = back.wanted.get(at)
    if form == "gap":
        back.found.append((row[1], at, row[2], wanted))
        if not all([closed(thing) for name, thing in row[2]]):
            back.unclear = True
    elif wanted is None:
        if may_fail(row):
            back.unclear = True
    elif form == "op":
        want_op(back, row, wanted)
    elif form == "more":
        want_more(back, row, wanted)
    else:
        back.unclear = True


def gone_back(sheet, answer):
    """Tells a sheet gone through backward, its thing being wanted to be the answer."""
    thing, rows = sheet
    back = Backward(rows)
    back.want(thing, answer)
    # A row's things have lefts of rows ahead of it alone, so behind it nothing more is wanted of it.
    for at in range(len(rows) - 1, -1, -1):
        go_back(back, at)
    return back


def musts(program, wants, most):
    """Tells what gaps must tell by wants, or of which want no filling does it, or of which it can't be told."""
    told = []
    for number, (inputs, answer) in enumerate(wants):
        came = run(program, inputs, most)
        if came[0] == "fault":
            return ("never", number)
        back = gone_back(came[1], answer)
        if back.never:
            return ("never", number)
        if back.unclear:
            return ("open", number)
        told.extend([((n, number, at), (n, around, thing)) for n, at, around, thing in back.found])
    return ("musts", [must for place, must in sorted(told, key=lambda pair: pair[0])])


def meets(program, must, term, most):
    """Tells whether a term without gaps, run in what is around, tells what a must says."""
    n, around, thing = must
    work = Work(program, most)
    work.go_into(term, around)
    told = finish(work)
    return not work.failed and (thing is None or same(told, thing))
