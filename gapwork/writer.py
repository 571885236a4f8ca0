"""The texts of kinds, terms and programs."""

from gapwork.brackets import bracketed, written
from gapwork.terms import innermost, kind_deep


def core_text(core):
    """Tells the text of a kind that is no row."""
    if core == "num":
        return "num"
    if core[0] == "open":
        return f"?{core[1]}"
    if core[0] == "any":
        return f"'{core[1]}"
    return core[1]


def kind_text(kind):
    """Tells the text of a kind."""
    depth = kind_deep(kind)
    return "(row " * depth + core_text(innermost(kind)) + ")" * depth


def spell_match(first, arms):
    """Tells the pieces of a match."""
    pieces = ["(match ", first]
    for tag, names, inner in arms:
        pieces.append(" ")
        pieces.extend(bracketed("(", (tag,) + names + (inner,)))
    pieces.append(")")
    return pieces


def spell_term(term):
    """Tells the pieces of a term: texts, and the terms right in it."""
    form = term[0]
    if form == "num":
        return [str(term[1])]
    if form == "name":
        return [term[1]]
    if form == "gap":
        return [f"?{term[1]}"]
    if form == "match":
        return spell_match(term[1], term[2])
    if form == "op":
        return bracketed("(", term[1:])
    if form == "row":
        return bracketed("(", ("row",) + term[1])
    if form == "call":
        return bracketed("(", ("call", term[1]) + term[2])
    if form == "tag":
        return bracketed("(", (f"{term[1]}:",) + term[2])
    # All other forms are written as they stand in their tuples.
    return bracketed("(", term)


def term_text(term):
    """Tells the text of a term."""
    return written(term, spell_term)


def kind_row(name, tags):
    """Tells the row of a program's kind."""
    texts = [" ".join([tag] + [kind_text(kind) for kind in kinds]) for tag, kinds in tags]
    return " ".join(["kind", name] + [f"({text})" for text in texts])


def def_row(name, params, term):
    """Tells the row of a program's def."""
    texts = [f"({param} {kind_text(kind)})" for param, kind in params]
    return " ".join(["def", name] + texts + ["=", term_text(term)])


def program_text(program):
    """Tells the text of a program."""
    kinds, defs = program
    rows = [kind_row(name, tags) for name, tags in kinds]
    rows.extend([def_row(name, params, term) for name, params, term in defs])
    return "\n".join(rows)
