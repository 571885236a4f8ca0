"""Programs looked at by their names."""

from gapwork.errors import NoName, Twice, WrongCount
from gapwork.programs import places, tags_of
from gapwork.terms import innermost


class Known:
    """What there is of a program at the place that is looked at: its kinds and tags, and what stands ahead."""

    def __init__(self, program):
        self.kinds = {name: [tag for tag, inner in tags] for name, tags in program[0]}
        self.kind_of_tag = {tag: name for tag, (name, inner) in tags_of(program).items()}
        self.many_of_tag = {tag: len(inner) for tag, (name, inner) in tags_of(program).items()}
        self.many_of_def = {}
        self.gaps = []
        self.opens = []


def look_once(names):
    """Refuses the first name that stands ahead already."""
    for at, name in enumerate(names):
        if name in names[:at]:
            raise Twice(name)


def look_tag(inner, ahead):
    """Refuses a tag's part of a kind that isn't ahead."""
    for kind in inner:
        core = innermost(kind)
        if core[0] == "open":
            raise NoName("?")
        if core[0] == "kind" and core[1] not in ahead:
            raise NoName(core[1])


def look_kinds(kinds):
    """Refuses kinds that are wrong by their names."""
    ahead = []
    tags_ahead = []
    for name, tags in kinds:
        look_once(ahead + [name])
        for tag, inner in tags:
            tags_ahead.append(tag)
            look_once(tags_ahead)
            look_tag(inner, ahead)
        ahead.append(name)


def look_params(params, known):
    """Refuses params that are wrong by their names."""
    ahead = []
    for name, kind in params:
        ahead.append(name)
        look_once(ahead)
        core = innermost(kind)
        if core[0] == "kind" and core[1] not in known.kinds:
            raise NoName(core[1])
        if core[0] == "open":
            look_gap(core[1], known.opens)


def look_gap(n, ahead):
    """Refuses a gap that stands ahead already, and keeps one that doesn't."""
    if n in ahead:
        raise Twice("?")
    ahead.append(n)


def look_count(name, things, counts):
    """Refuses a name that isn't there, or that takes another number of things."""
    if name not in counts:
        raise NoName(name)
    if len(things) != counts[name]:
        raise WrongCount(name)


def look_arms(arms, known):
    """Refuses a match that is wrong by its own tags and names."""
    if not arms:
        raise NoName("match")
    for tag, names, inner in arms:
        if tag not in known.kind_of_tag:
            raise NoName(tag)
    kind = known.kind_of_tag[arms[0][0]]
    # No tag stands in two kinds, so arms of a second kind have another tag than the first one's.
    if sorted([tag for tag, names, inner in arms]) != sorted(known.kinds[kind]):
        raise WrongCount("match")
    for tag, names, inner in arms:
        look_count(tag, names, known.many_of_tag)
        look_once(names)


def look_term(term, names, known):
    """Refuses a term that is wrong by its own names, whatever its parts are, where these are at hand."""
    form = term[0]
    if form == "name" and term[1] not in names:
        raise NoName(term[1])
    if form == "tag":
        look_count(term[1], term[2], known.many_of_tag)
    if form == "call":
        look_count(term[1], term[2], known.many_of_def)
    if form == "match":
        look_arms(term[2], known)
    if form == "fold":
        look_once((term[2], term[3]))
    if form == "gap":
        look_gap(term[1], known.gaps)


def look_names(program):
    """Tells True of a program whose names are right; refuses it with the first that is due otherwise."""
    kinds, defs = program
    look_kinds(kinds)
    known = Known(program)
    for name, params, term in defs:
        look_once(list(known.many_of_def) + [name])
        look_params(params, known)
        for names, here in places(params, term):
            look_term(here, names, known)
        known.many_of_def[name] = len(params)
    return True
