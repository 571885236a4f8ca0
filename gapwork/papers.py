"""Papers: rows of a search by which it can be seen that no term up to a size meets all musts."""

from gapwork.plain import Field, Table, head_of, is_fault, meets_all, terms_made, values_of
from gapwork.terms import inner_terms, parts
from gapwork.trees import from_below


def fits(form, head, inner):
    """Tells whether a term of this head is of a form, by the kinds that each of the terms right in it can have."""
    own, wanted, kind = form
    return own == head and len(wanted) == len(inner) and all([each in kinds for each, kinds in zip(wanted, inner)])


def looked_at(field, term):
    """Tells the kinds that a term can have, none where it isn't one of a search, and what it tells at each must."""
    def make(here, inner):
        head = head_of(here)
        kinds = [form[2] for form in field.forms if fits(form, head, [found for found, told in inner])]
        values = values_of(field, head, [told for found, told in inner]) if kinds else ()
        return ([], values) if is_fault(values) else (kinds, values)

    return from_below(term, inner_terms, make)


def entered(field, table, row):
    """Enters a row of a paper, and tells whether it is right by itself and none of its kind and values was ahead."""
    kind, values, term, size = row
    kinds, told = looked_at(field, term)
    own = [each for each in kinds if field.kinds[each] == kind]
    things = tuple([None if value == ("fault",) else field.store.keep(value) for value in values])
    if not own or told != things or size != len(parts(term)):
        return False
    return not meets_all(field, own[0], told) and table.enter(own[0], told, term, size)


def is_whole(field, table, size):
    """Tells whether each term that is made of a table's rows, up to a size, is there by its kind and values."""
    for now in range(1, size + 1):
        for kind, values, term in terms_made(field, table, now):
            if table.sizes.get((kind, values), now + 1) > now:
                return False
    return True


def paper_holds(program, n, musts, numbers, size, rows):
    """Tells whether rows show that no term of a search, for a gap, musts and numbers, of up to a size meets all."""
    field = Field(program, n, musts, numbers)
    table = Table()
    least = 1
    for row in rows:
        if not least <= row[3] <= size or not entered(field, table, row):
            return False
        least = row[3]
    return is_whole(field, table, size)
