"""Things: what is in them, whether two are the same, whether they are closed, and what is put for their lefts.

Nothing here calls itself, nor has Python compare whole things, as things that come up in runs may be very deep.
"""

from gapwork.trees import from_below


def inner_things(thing):
    """Tells a tuple of the things right in a thing."""
    return thing[-1] if thing[0] in ("row", "tag") else ()


def label(thing):
    """Tells what a thing is by itself: its form, its number or tag, and how many things are right in it."""
    return thing[:-1] + (len(thing[-1]),) if thing[0] in ("row", "tag") else thing


def all_inner(things):
    """Tells a list of the things right in any of these, in order."""
    return [inner for thing in things for inner in inner_things(thing)]


def same(one, other):
    """Tells whether two things are the same."""
    here = [one]
    there = [other]
    while here:
        if [label(thing) for thing in here] != [label(thing) for thing in there]:
            return False
        here = all_inner(here)
        there = all_inner(there)
    return True


def closed(thing):
    """Tells whether a thing has no lefts."""
    level = [thing]
    while level:
        if any([here[0] == "left" for here in level]):
            return False
        level = all_inner(level)
    return True


def with_lefts_put(thing, puts):
    """Tells a thing with what is put, by a list, in the place of the lefts of rows of these numbers."""
    def make(here, inner):
        if here[0] == "left":
            return puts[here[1]]
        return here[:-1] + (tuple(inner),) if inner else here

    # Most things have no lefts, and to see that is far less work than to build them anew.
    return thing if closed(thing) else from_below(thing, inner_things, make)
