"""Kinds, terms and programs, read from their texts."""

from gapwork.brackets import scanned, scanned_one
from gapwork.errors import BadText
from gapwork.terms import in_rows, innermost
from gapwork.words import is_figures, is_name

OPS = ("+", "-", "*", ":", "<", "=")

# What stands behind the first word of a form that has always as many things in it.
SHAPES = {
    "more": ("term", "term"),
    "first": ("term",),
    "others": ("term",),
    "long": ("term",),
    "if": ("term", "term", "term"),
    "let": ("name", "term", "term"),
    "fold": ("term", "name", "name", "term", "term"),
}


def name_of(item):
    """Tells the name that a word is."""
    if not isinstance(item, str) or not is_name(item):
        raise BadText(0)
    return item


def number_behind(word):
    """Tells the number behind the first sign of a gap's or a letter's word."""
    if not is_figures(word[1:], 2):
        raise BadText(0)
    return int(word[1:])


def core_of(word):
    """Tells the kind, no row, that a word is."""
    if word == "num":
        return "num"
    if word.startswith("?"):
        return ("open", number_behind(word))
    if word.startswith("'"):
        return ("any", number_behind(word))
    return ("kind", name_of(word))


def kept_list(opener, items):
    """Keeps a bracket as the list of what is in it."""
    if opener != "(":
        raise BadText(0)
    return items


def kind_of(item):
    """Tells the kind that a word or a bracket is."""
    depth = 0
    while not isinstance(item, str):
        if len(item) != 2 or item[0] != "row":
            raise BadText(0)
        item = item[1]
        depth += 1
    return in_rows(core_of(item), depth)


def read_kind(text):
    """Tells the kind of a text."""
    return kind_of(scanned_one(text, kept_list))


def term_of(item):
    """Tells the term that a word or a closed bracket is."""
    if not isinstance(item, str):
        sort, closed = item
        if sort != "term":
            raise BadText(0)
        return closed
    if is_figures(item, 6):
        return ("num", int(item))
    if item.startswith("?"):
        return ("gap", number_behind(item))
    return ("name", name_of(item))


def terms_of(items):
    """Tells the terms that words and closed brackets are, as a tuple."""
    return tuple([term_of(item) for item in items])


def arm_of(item):
    """Tells the arm that a closed bracket is."""
    if isinstance(item, str) or item[0] != "arm":
        raise BadText(0)
    return item[1]


def shaped(shape, items):
    """Tells what items are, each of the sort that the shape has there."""
    if len(items) != len(shape):
        raise BadText(0)
    return tuple([term_of(item) if sort == "term" else name_of(item) for sort, item in zip(shape, items)])


def closed_term(head, items):
    """Tells the term of a bracket by its first word and what is behind it; None where that begins no term."""
    if head in OPS:
        return ("op", head) + shaped(("term", "term"), items)
    if head in SHAPES:
        return (head,) + shaped(SHAPES[head], items)
    if head == "row":
        return ("row", terms_of(items))
    if head == "call" and items:
        return ("call", name_of(items[0]), terms_of(items[1:]))
    if head == "match" and items:
        return ("match", term_of(items[0]), tuple([arm_of(item) for item in items[1:]]))
    if head.endswith(":"):
        return ("tag", name_of(head[:-1]), terms_of(items))
    return None


def close_term(opener, items):
    """Tells a bracket of a term's text as a pair: "term" and the term, or "arm" and the match's arm."""
    if opener != "(" or not items or not isinstance(items[0], str):
        raise BadText(0)
    term = closed_term(items[0], items[1:])
    if term is not None:
        return ("term", term)
    if len(items) < 2:
        raise BadText(0)
    names = tuple([name_of(item) for item in items[1:-1]])
    return ("arm", (name_of(items[0]), names, term_of(items[-1])))


def read_term(text):
    """Tells the term of a text."""
    return term_of(scanned_one(text, close_term))


def kind_without(item, sorts):
    """Tells the kind that an item is, where none of these sorts of kinds may stand in it."""
    kind = kind_of(item)
    if innermost(kind)[0] in sorts:
        raise BadText(0)
    return kind


def tag_of(item):
    """Tells the tag of a kind that a bracket is."""
    if isinstance(item, str) or not item:
        raise BadText(0)
    return (name_of(item[0]), tuple([kind_without(part, ("any", "open")) for part in item[1:]]))


def param_of(item):
    """Tells the param of a def that a bracket is."""
    if isinstance(item, str) or len(item) != 2:
        raise BadText(0)
    return (name_of(item[0]), kind_without(item[1], ("any",)))


def read_kind_row(row):
    """Tells the kind of a program that a row, with the word kind first, is."""
    items = scanned(row, kept_list)
    if len(items) < 3:
        raise BadText(0)
    return (name_of(items[1]), tuple([tag_of(item) for item in items[2:]]))


def read_def_row(row):
    """Tells the def of a program that a row is."""
    # The op that is written alike stands right behind a bracket, so the first of these is the def's own.
    head, mark, text = row.partition(" = ")
    items = scanned(head, kept_list)
    if len(items) < 2 or items[0] != "def":
        raise BadText(0)
    return (name_of(items[1]), tuple([param_of(item) for item in items[2:]]), read_term(text))


def read_program(text):
    """Tells the program of a text."""
    rows = text.split("\n")
    kinds = []
    defs = []
    for at, row in enumerate(rows):
        try:
            # Behind a def no kind may stand, so there a kind's row is asked to be a def's, and refused.
            if row.startswith("kind ") and not defs:
                kinds.append(read_kind_row(row))
            else:
                defs.append(read_def_row(row))
        except BadText:
            raise BadText(at) from None
    if not defs:
        raise BadText(len(rows))
    return (tuple(kinds), tuple(defs))
