"""What the tests share: makers of kinds, terms, programs, things by seeds, and a slow second way to what is asked."""

import random
import re

KEPT = "num row kind def more first others long match if let fold call gap in world fault left".split()
NAMES = ("a", "b", "x", "y", "zz", "abcdef", "op", "tag", "name", "any", "to", "nums", "ifs", "lef", "defs")
OPS = "+-*:<="
FORMS = ("num", "name", "op", "row", "more", "first", "others", "long", "tag", "match", "if", "let", "fold",
         "call", "gap")
CORES = ("num", ("kind", "abc"), ("open", 7), ("any", 12))


def seeded(seed):
    return random.Random(seed)


def rows_of(kind, many):
    for row in range(many):
        kind = ("row", kind)
    return kind


def shared_out(rand, total, many):
    """Splits a total into `many` whole numbers of at least one."""
    cuts = sorted(rand.sample(range(1, total), many - 1))
    return [right - left for left, right in zip([0] + cuts, cuts + [total])]


def inner_count(rand, form, room):
    """How many terms stand right in a term of this form, none of more than the room; None where it doesn't fit."""
    fixed = {"num": 0, "name": 0, "gap": 0, "op": 2, "more": 2, "first": 1, "others": 1, "long": 1, "if": 3,
             "let": 2, "fold": 3}
    if form in fixed:
        return fixed[form] if fixed[form] <= room and (fixed[form] or not room) else None
    least = 1 if form == "match" else 0
    most = min(room, 5 + least)
    if most < least or (room and not most):
        return None
    return rand.randint(max(least, 1 if room else 0), most)


def make_term(rand, size, gaps=(0, 99), forms=FORMS, names=NAMES):
    """A term of exactly this many parts."""
    while True:
        form = rand.choice(forms)
        many = inner_count(rand, form, size - 1)
        if many is not None and (many or size == 1):
            break
    inner = [make_term(rand, each, gaps, forms, names) for each in shared_out(rand, size - 1, many)] if many else []
    if form == "num":
        return ("num", rand.choice((0, 1, 7, 10, 999999, rand.randrange(1000000))))
    if form == "name":
        return ("name", rand.choice(names))
    if form == "gap":
        return ("gap", rand.randint(*gaps))
    if form == "op":
        return ("op", rand.choice(OPS), *inner)
    if form == "row":
        return ("row", tuple(inner))
    if form in ("tag", "call"):
        return (form, rand.choice(names), tuple(inner))
    if form == "match":
        arms = [(rand.choice(names), tuple(rand.choice(names) for k in range(rand.randrange(4))), term)
                for term in inner[1:]]
        return ("match", inner[0], tuple(arms))
    if form == "let":
        return ("let", rand.choice(names), *inner)
    if form == "fold":
        return ("fold", inner[0], rand.choice(names), rand.choice(names), inner[1], inner[2])
    return (form, *inner)


def make_terms(seed, many, most=40, gaps=(0, 99)):
    rand = seeded(seed)
    return [make_term(rand, rand.randint(1, most), gaps) for k in range(many)]


def slow_inner(term):
    """The terms right in a term, found by walking its tuple, whatever its form."""
    if term[0] == "match":
        return [term[1]] + [arm[2] for arm in term[2]]
    found = []
    for thing in term[1:]:
        if isinstance(thing, tuple) and thing and isinstance(thing[0], str):
            found.append(thing)
        elif isinstance(thing, tuple):
            found.extend(thing)
    return found


def slow_parts(term):
    found = [term]
    for inner in slow_inner(term):
        found += slow_parts(inner)
    return found


def slow_deep(term):
    return max([1 + slow_deep(inner) for inner in slow_inner(term)], default=0)


def make_kind(rand, most=5, cores=CORES):
    return rows_of(rand.choice(cores), rand.randint(0, most))


def make_program(rand, most=15):
    """A program of the form, let by or not."""
    name = rand.choice
    plain = ("num", ("kind", "abc"), ("kind", "k"))
    params_of = plain + (("open", 0), ("open", 7), ("open", 99))
    kinds = []
    for k in range(rand.randrange(4)):
        tags = [(name(NAMES), tuple(make_kind(rand, 2, plain) for part in range(rand.randrange(3))))
                for tag in range(rand.randint(1, 3))]
        kinds.append((name(NAMES), tuple(tags)))
    defs = []
    for k in range(rand.randint(1, 3)):
        params = tuple((name(NAMES), make_kind(rand, 2, params_of)) for param in range(rand.randrange(4)))
        defs.append((name(NAMES), params, make_term(rand, rand.randint(1, most))))
    return (tuple(kinds), tuple(defs))


def make_thing(rand, size):
    """A thing of exactly this many things."""
    if size == 1:
        return rand.choice((("num", 0), ("num", 999999), ("num", rand.randrange(1000000)), ("left", 0), ("left", 120),
                            ("row", ()), ("tag", rand.choice(NAMES), ())))
    inner = tuple(make_thing(rand, each) for each in shared_out(rand, size - 1, rand.randint(1, min(size - 1, 5))))
    return rand.choice((("row", inner), ("tag", rand.choice(NAMES), inner)))


def slow_kind_text(kind):
    if kind == "num":
        return "num"
    if kind[0] == "row":
        return f"(row {slow_kind_text(kind[1])})"
    return {"kind": "", "open": "?", "any": "'"}[kind[0]] + str(kind[1])


def slow_term_text(term):
    def many(terms):
        return "".join(" " + slow_term_text(inner) for inner in terms)

    def arm_text(arm):
        return " (" + "".join(word + " " for word in (arm[0], *arm[1])) + slow_term_text(arm[2]) + ")"

    form = term[0]
    if form in ("num", "name"):
        return str(term[1])
    if form == "gap":
        return "?" + str(term[1])
    if form == "op":
        return "(" + term[1] + many(term[2:]) + ")"
    if form == "row":
        return "(row" + many(term[1]) + ")"
    if form == "tag":
        return "(" + term[1] + ":" + many(term[2]) + ")"
    if form == "call":
        return "(call " + term[1] + many(term[2]) + ")"
    if form == "match":
        return "(match" + many(term[1:2]) + "".join(arm_text(arm) for arm in term[2]) + ")"
    if form == "let":
        return "(let " + term[1] + many(term[2:]) + ")"
    if form == "fold":
        return "(fold" + many(term[1:2]) + " " + term[2] + " " + term[3] + many(term[4:]) + ")"
    return "(" + form + many(term[1:]) + ")"


def slow_program_text(program):
    rows = []
    for name, tags in program[0]:
        row = "kind " + name
        for tag, kinds in tags:
            row += " (" + tag + "".join(" " + slow_kind_text(kind) for kind in kinds) + ")"
        rows.append(row)
    for name, params, term in program[1]:
        row = "def " + name
        for param, kind in params:
            row += " (" + param + " " + slow_kind_text(kind) + ")"
        rows.append(row + " = " + slow_term_text(term))
    return "\n".join(rows)


def slow_thing_text(thing):
    if thing[0] == "num":
        return str(thing[1])
    if thing[0] == "left":
        return "<" + str(thing[1]) + ">"
    if thing[0] == "row":
        return "[" + " ".join(slow_thing_text(inner) for inner in thing[1]) + "]"
    return "(" + " ".join([thing[1]] + [slow_thing_text(inner) for inner in thing[2]]) + ")"


# A second way to tell what is a text: its innermost brackets are put for one sign, until none is left.
NAME = "(?!(?:" + "|".join(KEPT) + r")\b)[a-z]{1,6}"
FIGURES = "(?:0|[1-9][0-9]{0,5})"
GAP = r"(?:0|[1-9][0-9]?)"
TERM = rf"(?:@|{FIGURES}|{NAME}|\?{GAP})"
TERM_FORM = re.compile(
    rf"\((?:[-+*:<=] {TERM} {TERM}|row(?: {TERM})*|more {TERM} {TERM}|(?:first|others|long) {TERM}"
    rf"|{NAME}:(?: {TERM})*|match {TERM}(?: &)*|if {TERM} {TERM} {TERM}|let {NAME} {TERM} {TERM}"
    rf"|fold {TERM} {NAME} {NAME} {TERM} {TERM}|call {NAME}(?: {TERM})*)\)")
ARM_FORM = re.compile(rf"\({NAME}(?: {NAME})* {TERM}\)")
THING = rf"(?:@|{FIGURES}|<{FIGURES}>)"
THING_FORM = re.compile(rf"\[(?:{THING}(?: {THING})*)?\]|\({NAME}(?: {THING})*\)")


def reduced(text, forms):
    """The text with brackets put for signs; a text that has such a sign itself is told as an empty one."""
    if "@" in text or "&" in text:
        return ""
    while True:
        shorter = text
        for form, sign in forms:
            shorter = form.sub(sign, shorter)
        if shorter == text:
            return text
        text = shorter


def is_term_text(text):
    return re.fullmatch(TERM, reduced(text, [(TERM_FORM, "@"), (ARM_FORM, "&")])) is not None


def is_thing_text(text):
    return re.fullmatch(THING, reduced(text, [(THING_FORM, "@")])) is not None


def kind_pattern(others):
    return rf"(?:@|num|{NAME}{others})"


def kinds_reduced(text, others):
    return reduced(text, [(re.compile(rf"\(row {kind_pattern(others)}\)"), "@")])


ALL_OTHERS = rf"|\?{GAP}|'{GAP}"
PARAM_OTHERS = rf"|\?{GAP}"


def is_kind_text(text):
    return re.fullmatch(kind_pattern(ALL_OTHERS), kinds_reduced(text, ALL_OTHERS)) is not None


def is_kind_row(row):
    shape = rf"kind {NAME}(?: \({NAME}(?: {kind_pattern('')})*\))+"
    return re.fullmatch(shape, kinds_reduced(row, "")) is not None


def is_def_row(row):
    head, mark, text = row.partition(" = ")
    shape = rf"def {NAME}(?: \({NAME} {kind_pattern(PARAM_OTHERS)}\))*"
    return re.fullmatch(shape, kinds_reduced(head, PARAM_OTHERS)) is not None and is_term_text(text)


def first_bad_row(text):
    """The number of the first row by which it can't be a program's text; None where it is one."""
    had_def = False
    rows = text.split("\n")
    for at, row in enumerate(rows):
        if is_def_row(row):
            had_def = True
        elif had_def or not is_kind_row(row):
            return at
    return None if had_def else len(rows)


SIGNS = list(" \n()[]<>'?:;=+-*,._!~^09ab") + list("kQ7\"#$&@|{}/\\`")
WORDS = KEPT + ["a", "abcdef", "abcdefg", "A", "0", "00", "01", "999999", "1000000", "0000000", "?0", "?9", "?99",
                "?100", "?00", "?01", "?", "'0", "'99", "'100", "'00", "'", "a:", "row:", ":", "=", "()", "[]", "<0>",
                "<01>", "<>", "<1234567>", "<?1>", "(row)", "(a:)", "(a)", "( a)", "(a )", "(row num)", "(row ?1)",
                "(abc)", "(a 1)", "[1]", "-1", "+1", "1a", "(a", "a)", "?1)", ""]


def without_or_with(rand, pieces, others):
    """Pieces with one less, more, another one, twice, or exchanged."""
    pieces = list(pieces)
    at = rand.randrange(len(pieces) + 1)
    deed = rand.randrange(5)
    if deed == 0 or at == len(pieces):
        pieces.insert(at, rand.choice(others))
    elif deed == 1:
        del pieces[at]
    elif deed == 2:
        pieces[at] = rand.choice(others)
    elif deed == 3:
        pieces.insert(at, pieces[at])
    else:
        far = rand.randrange(len(pieces))
        pieces[at], pieces[far] = pieces[far], pieces[at]
    return pieces


def otherwise(rand, text):
    """A text with one or two signs or words otherwise."""
    for k in range(rand.randint(1, 2)):
        if rand.randrange(2):
            text = "".join(without_or_with(rand, text, SIGNS))
        else:
            words = re.findall(r"[()\[\]]|\n| |[^()\[\]\n ]+", text)
            text = "".join(without_or_with(rand, words, WORDS))
    return text


def rows_otherwise(rand, text):
    """A program's text with a row less, twice, exchanged, an empty one, half of one, or another one."""
    rows = text.split("\n")
    at = rand.randrange(len(rows))
    half = rows[at][:rand.randrange(len(rows[at]) + 1)]
    others = ["", half, rows[at], "kind k (a)", "kind k", "kind k (a ?0)", "kind k (a (row '1))", "def f = 1", "def f",
              "def f (x '0) = 1", "def f (x (row ?1)) = ?1", "def f (x) = 1", "def f (x num num) = 1", "def num = 1"]
    return "\n".join(without_or_with(rand, rows, others))
