"""The texts of things, written and read."""

from gapwork.brackets import bracketed, scanned_one, written
from gapwork.errors import BadText
from gapwork.words import is_figures, is_name


def spell_thing(thing):
    """Tells the pieces of a thing: texts, and the things right in it."""
    form = thing[0]
    if form == "num":
        return [str(thing[1])]
    if form == "left":
        return [f"<{thing[1]}>"]
    if form == "row":
        return bracketed("[", thing[1])
    return bracketed("(", (thing[1],) + thing[2])


def thing_text(thing):
    """Tells the text of a thing."""
    return written(thing, spell_thing)


def thing_of(item):
    """Tells the thing that a word or a closed bracket is."""
    if not isinstance(item, str):
        return item
    if is_figures(item, 6):
        return ("num", int(item))
    if item.startswith("<") and item.endswith(">") and is_figures(item[1:-1], 6):
        return ("left", int(item[1:-1]))
    raise BadText(0)


def things_of(items):
    """Tells the things that words and closed brackets are, as a tuple."""
    return tuple([thing_of(item) for item in items])


def close_thing(opener, items):
    """Tells the row or the tag that a bracket is."""
    if opener == "[":
        return ("row", things_of(items))
    if not items or not isinstance(items[0], str) or not is_name(items[0]):
        raise BadText(0)
    return ("tag", items[0], things_of(items[1:]))


def read_thing(text):
    """Tells the thing of a text."""
    return thing_of(scanned_one(text, close_thing))
