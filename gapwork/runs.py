"""Programs run round their gaps."""

from gapwork.doing import Work, finish
from gapwork.programs import bound_to


def run(program, inputs, most):
    """Tells what comes of a program's last def with these inputs: a fault, or a sheet and how many doings it took."""
    work = Work(program, most)
    names, term = work.defs[program[1][-1][0]]
    work.go_into(term, bound_to((), names, inputs))
    thing = finish(work)
    if work.failed:
        return ("fault",)
    return ("sheet", (thing, tuple(work.rows)), work.many)
