"""Kinds and terms: what is in them and how deep they are.

Nothing here calls itself, as kinds that are found and programs that are filled may be very deep.
"""

from gapwork.trees import from_below

# Where the terms right in a term stand in its tuple, of the forms that bind no names.
PLACES = {
    "num": (), "name": (), "gap": (), "op": (2, 3), "more": (1, 2),
    "first": (1,), "others": (1,), "long": (1,), "if": (1, 2, 3),
}

# Where the tuple of terms stands, of the forms that have as many as they like.
PLACE_OF_MANY = {"row": 1, "tag": 2, "call": 2}


def kind_deep(kind):
    """Tells how deep a kind is."""
    depth = 0
    while kind[0] == "row":
        kind = kind[1]
        depth += 1
    return depth


def innermost(kind):
    """Tells the kind within all rows of a kind."""
    while kind[0] == "row":
        kind = kind[1]
    return kind


def in_rows(kind, depth):
    """Tells the row of a kind, or the row of that, and so on: as many rows as depth says."""
    for row in range(depth):
        kind = ("row", kind)
    return kind


def right_in(term):
    """Tells the terms right in a term, in order, as pairs: the names that it binds there, the inner term."""
    form = term[0]
    if form == "match":
        return [((), term[1])] + [(names, inner) for tag, names, inner in term[2]]
    if form == "let":
        return [((), term[2]), ((term[1],), term[3])]
    if form == "fold":
        return [((), term[1]), ((), term[4]), ((term[2], term[3]), term[5])]
    if form in PLACE_OF_MANY:
        return [((), inner) for inner in term[PLACE_OF_MANY[form]]]
    return [((), term[place]) for place in PLACES[form]]


def inner_terms(term):
    """Tells a list of the terms right in a term, in order."""
    return [inner for names, inner in right_in(term)]


def with_inner(term, inner):
    """Tells a term with other terms, in order, in the place of those right in it."""
    form = term[0]
    if form == "match":
        arms = [(tag, names, told) for (tag, names, old), told in zip(term[2], inner[1:])]
        return ("match", inner[0], tuple(arms))
    if form == "let":
        return ("let", term[1], inner[0], inner[1])
    if form == "fold":
        return ("fold", inner[0], term[2], term[3], inner[1], inner[2])
    if form in PLACE_OF_MANY:
        return term[:PLACE_OF_MANY[form]] + (tuple(inner),)
    told = list(term)
    for place, each in zip(PLACES[form], inner):
        told[place] = each
    return tuple(told)


def parts(term):
    """Tells a list of all terms in a term, itself first, in the order in which they stand."""
    told = []
    waiting = [term]
    while waiting:
        here = waiting.pop()
        told.append(here)
        waiting.extend(inner_terms(here)[::-1])
    return told


def deep(term):
    """Tells how deep a term is."""
    deepest = 0
    waiting = [(0, term)]
    while waiting:
        depth, here = waiting.pop()
        deepest = max(deepest, depth)
        waiting.extend([(depth + 1, inner) for inner in inner_terms(here)])
    return deepest


def gaps_in(term):
    """Tells a list of the numbers of the gaps in a term, in order, each as often as it stands."""
    return [part[1] for part in parts(term) if part[0] == "gap"]


def with_gaps_put(term, puts):
    """Tells a term with terms, by a dict from gaps' numbers, in the place of gaps; what is put isn't gone into."""
    def make(here, inner):
        return puts.get(here[1], here) if here[0] == "gap" else with_inner(here, inner)

    return from_below(term, inner_terms, make)
