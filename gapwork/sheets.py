"""Sheets filled: the rows that could not be done yet are gone through once more."""

from gapwork.doing import Work, do_row, finish
from gapwork.filled import filled
from gapwork.terms import with_gaps_put
from gapwork.things import with_lefts_put

# What stands behind the first word of a sheet's row: a thing that it looks at, a term or a match's arms that it may
# go into, what is around, or a word or number that stays as it is.
SHAPES = {
    "gap": ("word", "around"),
    "op": ("word", "thing", "thing"),
    "more": ("thing", "thing"),
    "first": ("thing",),
    "others": ("thing",),
    "long": ("thing",),
    "match": ("thing", "arms", "around"),
    "if": ("thing", "term", "term", "around"),
    "fold": ("thing", "word", "word", "thing", "term", "around"),
}


def item_now(sort, item, told, puts):
    """Tells what stands in a row as it is now: lefts by the things that were told, gaps by the terms that are put."""
    if sort == "thing":
        return with_lefts_put(item, told)
    if sort == "term":
        return with_gaps_put(item, puts)
    if sort == "arms":
        return tuple([(tag, names, with_gaps_put(inner, puts)) for tag, names, inner in item])
    if sort == "around":
        return tuple([(name, with_lefts_put(thing, told)) for name, thing in item])
    return item


def row_now(row, told, puts):
    """Tells a row as it is now."""
    items = [item_now(sort, item, told, puts) for sort, item in zip(SHAPES[row[0]], row[1:])]
    return row[:1] + tuple(items)


def sheet_filled(program, sheet, terms, kinds, most):
    """Tells what comes of a program's sheet by these fillings: a fault, or a sheet and how many doings it took anew."""
    work = Work(filled(program, terms, kinds), most)
    puts = dict(terms)
    thing, rows = sheet
    told = []
    for row in rows:
        now = row_now(row, told, puts)
        if now[0] == "gap" and now[1] in puts:
            work.go_into(puts[now[1]], now[2])
        else:
            do_row(work, now)
        told.append(finish(work))
        if work.failed:
            return ("fault",)
    return ("sheet", (with_lefts_put(thing, told), tuple(work.rows)), work.many)
