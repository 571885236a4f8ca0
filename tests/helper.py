"""What the tests share: makers of kinds, terms, programs and things by seeds, and a slow second way to what is asked."""

import random

KEPT = "num row kind def more first others long match if let fold call gap in world fault left".split()
NAMES = ("a", "b", "x", "y", "zz", "abcdef", "op", "tag", "name", "any", "to", "nums", "ifs", "lef", "defs")
OPS = "+-*:<="
FORMS = ("num", "name", "op", "row", "more", "first", "others", "long", "tag", "match", "if", "let", "fold",
         "call", "gap")
CORES = ("num", ("kind", "abc"), ("open", 7), ("any", 12))


def seeded(seed):
    return random.Random(seed)


def rows_of(kind, many):
    for row in range(many):
        kind = ("row", kind)
    return kind


def shared_out(rand, total, many):
    """Splits a total into `many` whole numbers of at least one."""
    cuts = sorted(rand.sample(range(1, total), many - 1))
    return [right - left for left, right in zip([0] + cuts, cuts + [total])]


def inner_count(rand, form, room):
    """How many terms stand right in a term of this form, none of more than the room; None where it doesn't fit."""
    fixed = {"num": 0, "name": 0, "gap": 0, "op": 2, "more": 2, "first": 1, "others": 1, "long": 1, "if": 3,
             "let": 2, "fold": 3}
    if form in fixed:
        return fixed[form] if fixed[form] <= room and (fixed[form] or not room) else None
    least = 1 if form == "match" else 0
    most = min(room, 5 + least)
    if most < least or (room and not most):
        return None
    return rand.randint(max(least, 1 if room else 0), most)


def make_term(rand, size, gaps=(0, 99), forms=FORMS):
    """A term of exactly this many parts."""
    name = rand.choice
    while True:
        form = rand.choice(forms)
        many = inner_count(rand, form, size - 1)
        if many is not None and (many or size == 1):
            break
    inner = [make_term(rand, each, gaps, forms) for each in shared_out(rand, size - 1, many)] if many else []
    if form == "num":
        return ("num", rand.choice((0, 1, 7, 10, 999999, rand.randrange(1000000))))
    if form == "name":
        return ("name", name(NAMES))
    if form == "gap":
        return ("gap", rand.randint(*gaps))
    if form == "op":
        return ("op", rand.choice(OPS), *inner)
    if form == "row":
        return ("row", tuple(inner))
    if form in ("tag", "call"):
        return (form, name(NAMES), tuple(inner))
    if form == "match":
        arms = [(name(NAMES), tuple(name(NAMES) for k in range(rand.randrange(4))), term) for term in inner[1:]]
        return ("match", inner[0], tuple(arms))
    if form == "let":
        return ("let", name(NAMES), *inner)
    if form == "fold":
        return ("fold", inner[0], name(NAMES), name(NAMES), inner[1], inner[2])
    return (form, *inner)


def make_terms(seed, many, most=40, gaps=(0, 99)):
    rand = seeded(seed)
    return [make_term(rand, rand.randint(1, most), gaps) for k in range(many)]


def slow_inner(term):
    """The terms right in a term, found by walking its tuple, whatever its form."""
    if term[0] == "match":
        return [term[1]] + [arm[2] for arm in term[2]]
    found = []
    for thing in term[1:]:
        if isinstance(thing, tuple) and thing and isinstance(thing[0], str):
            found.append(thing)
        elif isinstance(thing, tuple):
            found.extend(thing)
    return found


def slow_parts(term):
    found = [term]
    for inner in slow_inner(term):
        found += slow_parts(inner)
    return found


def slow_deep(term):
    return max([1 + slow_deep(inner) for inner in slow_inner(term)], default=0)
