"""The plain terms of a search: how they are made, of which kinds they are, and what they tell at each must.

Kinds stand here for the most part by their numbers among those that can come up, things by their numbers in a store,
and None for a fault. A term's head is the term but for the terms right in it.
"""

from gapwork.doing import op_number
from gapwork.kinds import kind_of_gap
from gapwork.store import Store

SIGNS = ("+", "-", "*", ":", "<", "=")


def parts_of_kind(program, kind):
    """Tells a list of the kinds that are right in a kind: of a row, or of its tags."""
    if kind[0] == "row":
        return [kind[1]]
    if kind[0] == "kind":
        return [part for name, tags in program[0] if name == kind[1] for tag, inner in tags for part in inner]
    return []


def kinds_within(program, kinds):
    """Tells a list of these kinds and of all in them, each once."""
    told = []
    waiting = list(kinds)
    while waiting:
        kind = waiting.pop()
        if kind not in told:
            told.append(kind)
            waiting.extend(parts_of_kind(program, kind))
    return told


# A form of terms is told as its head, the kinds of the terms right in it, and its own kind.


def forms_of_kind(program, kind):
    """Tells the forms by which terms of a kind are made, or taken apart, whatever names and numbers there are."""
    told = [(("if",), ("num", kind, kind), kind)]
    if kind[0] == "row":
        told.append((("row",), (), kind))
        told.append((("more",), (kind[1], kind), kind))
        told.append((("first",), (kind,), kind[1]))
        told.append((("others",), (kind,), kind))
        told.append((("long",), (kind,), "num"))
    for name, tags in program[0]:
        if kind == ("kind", name):
            told.extend([(("tag", tag), inner, kind) for tag, inner in tags])
    return told


def all_forms(program, names, numbers, kinds):
    """Tells all forms of terms with these names and numbers, of these kinds, by the kinds' numbers."""
    told = [(("name", name), (), kind) for name, kind in names]
    told.extend([(("num", n), (), "num") for n in numbers])
    told.extend([(("op", sign), ("num", "num"), "num") for sign in SIGNS])
    for kind in kinds:
        told.extend(forms_of_kind(program, kind))
    return [(head, tuple([kinds.index(part) for part in inner]), kinds.index(kind)) for head, inner, kind in told]


class Field:
    """Where a search goes: the kinds that can come up, the forms of terms, and the musts."""

    def __init__(self, program, n, musts, numbers):
        names, kind = kind_of_gap(program, n)
        self.store = Store()
        self.kinds = kinds_within(program, ["num", kind] + [own for name, own in names])
        self.goal = self.kinds.index(kind)
        self.forms = all_forms(program, names, numbers, self.kinds)
        # By musts: what is around, as a dict from names; the thing that is wanted, or None.
        self.arounds = [{name: self.store.keep(thing) for name, thing in around} for gap, around, wanted in musts]
        self.wanted = [None if wanted is None else self.store.keep(wanted) for gap, around, wanted in musts]


def term_of(head, inner):
    """Tells the term of a head and the terms right in it."""
    return head + (tuple(inner),) if head[0] in ("row", "tag") else head + tuple(inner)


def head_of(term):
    """Tells a term's head."""
    if term[0] in ("num", "name"):
        return term
    return term[:2] if term[0] in ("op", "tag") else term[:1]


def told_op(store, sign, inner):
    """Tells the number of what an op tells."""
    a, b = [store.makings[number][1] for number in inner]
    if sign == ":" and b == 0:
        return None
    return store.number_of(("num", op_number(sign, a, b)))


def told_of_row(store, form, number):
    """Tells the number of what a first, an others, a long tells of a row."""
    things = store.makings[number][1]
    if form == "long":
        return store.number_of(("num", len(things)))
    if not things:
        return None
    return things[0] if form == "first" else store.number_of(("row", things[1:]))


def told_if(store, inner):
    """Tells what an if tells, of which the side that isn't gone into may be a fault."""
    a, b, c = inner
    if a is None:
        return None
    return c if store.makings[a] == ("num", 0) else b


def told_at(store, head, inner):
    """Tells what a term tells at one must, by its head and by what the terms right in it tell there."""
    form = head[0]
    if form == "if":
        return told_if(store, inner)
    if None in inner:
        return None
    if form == "op":
        return told_op(store, head[1], inner)
    if form == "more":
        return store.number_of(("row", (inner[0],) + store.makings[inner[1]][1]))
    if form in ("first", "others", "long"):
        return told_of_row(store, form, inner[0])
    return store.number_of(term_of(head, inner))


def values_of(field, head, inner):
    """Tells a tuple of what a term tells at each must, by its head and by such tuples of the terms right in it."""
    if head[0] == "name":
        return tuple([around[head[1]] for around in field.arounds])
    return tuple([told_at(field.store, head, [values[at] for values in inner]) for at in range(len(field.arounds))])


def is_fault(values):
    """Tells whether there is a fault at all musts."""
    return all([value is None for value in values])


def meets_all(field, kind, values):
    """Tells whether a term of this kind, by what it tells, is one that is searched for."""
    if kind != field.goal or None in values:
        return False
    return all([wanted is None or value == wanted for value, wanted in zip(values, field.wanted)])


class Table:
    """Rows of a search, (kind, values, term, size), no two of one kind and values."""

    def __init__(self):
        self.rows = []
        # By kinds and values: the row's size. By kinds and sizes: a list of rows.
        self.sizes = {}
        self.places = {}

    def enter(self, kind, values, term, size):
        """Enters a row, and tells whether it was entered: not where there is one of its kind and values."""
        if (kind, values) in self.sizes:
            return False
        self.sizes[(kind, values)] = size
        self.rows.append((kind, values, term, size))
        self.places.setdefault((kind, size), []).append((values, term))
        return True


def splits(total, many):
    """Tells all tuples of so many whole numbers from 1 on that come to this total."""
    told = [()]
    for each in range(many):
        told = [ahead + (size,) for ahead in told for size in range(1, total + 1)]
    return [sizes for sizes in told if sum(sizes) == total]


def picked(table, kinds, sizes):
    """Tells all tuples of a table's rows of these kinds and sizes, place by place."""
    told = [()]
    for place in zip(kinds, sizes):
        told = [ahead + (row,) for ahead in told for row in table.places.get(place, [])]
    return told


def terms_made(field, table, size):
    """Tells a list of (kind, values, term): the terms of this size made of a table's rows by one more part."""
    told = []
    for head, inner, kind in field.forms:
        for sizes in splits(size - 1, len(inner)):
            for rows in picked(table, inner, sizes):
                values = values_of(field, head, [row[0] for row in rows])
                if not is_fault(values):
                    told.append((kind, values, term_of(head, [row[1] for row in rows])))
    return told
