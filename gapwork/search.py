"""The first filling, by size, that tells what is wanted, searched among plain terms."""

from gapwork.errors import TooMany
from gapwork.plain import Field, Table, meets_all, terms_made


def told_row(field, row):
    """Tells a table's row as it is told: with its kind and its values themselves."""
    kind, values, term, size = row
    things = [("fault",) if value is None else field.store.things[value] for value in values]
    return (field.kinds[kind], tuple(things), term, size)


def searched(program, n, musts, numbers, size, most):
    """Tells a term of the least size for a gap that meets all musts, and the rows of lesser size; or that none does."""
    field = Field(program, n, musts, numbers)
    table = Table()
    for now in range(1, size + 1):
        lesser = list(table.rows)
        for kind, values, term in terms_made(field, table, now):
            if meets_all(field, kind, values):
                return ("found", term, now, tuple([told_row(field, row) for row in lesser]))
            table.enter(kind, values, term, now)
        # Whether a term of the next size is found or none is, these rows would be told.
        if len(table.rows) > most:
            raise TooMany(most)
    return ("none", tuple([told_row(field, row) for row in table.rows]))
