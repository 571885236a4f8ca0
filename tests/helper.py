"""What the tests share: makers of kinds, terms, programs, things by seeds, and a slow second way to what is asked."""

import random
import re

from gapwork.errors import GapError
from gapwork.reader import read_term
from gapwork.thingtexts import read_thing

KEPT = "num row kind def more first others long match if let fold call gap in world fault left".split()
NAMES = ("a", "b", "x", "y", "zz", "abcdef", "op", "tag", "name", "any", "to", "nums", "ifs", "lef", "defs")
OPS = "+-*:<="
FORMS = ("num", "name", "op", "row", "more", "first", "others", "long", "tag", "match", "if", "let", "fold",
         "call", "gap")
CORES = ("num", ("kind", "abc"), ("open", 7), ("any", 12))


def seeded(seed):
    return random.Random(seed)


def rows_of(kind, many):
    for row in range(many):
        kind = ("row", kind)
    return kind


def shared_out(rand, total, many):
    """Splits a total into `many` whole numbers of at least one."""
    cuts = sorted(rand.sample(range(1, total), many - 1))
    return [right - left for left, right in zip([0] + cuts, cuts + [total])]


def inner_count(rand, form, room):
    """How many terms stand right in a term of this form, none of more than the room; None where it doesn't fit."""
    fixed = {"num": 0, "name": 0, "gap": 0, "op": 2, "more": 2, "first": 1, "others": 1, "long": 1, "if": 3,
             "let": 2, "fold": 3}
    if form in fixed:
        return fixed[form] if fixed[form] <= room and (fixed[form] or not room) else None
    least = 1 if form == "match" else 0
    most = min(room, 5 + least)
    if most < least or (room and not most):
        return None
    return rand.randint(max(least, 1 if room else 0), most)


def make_term(rand, size, gaps=(0, 99), forms=FORMS, names=NAMES):
    """A term of exactly this many parts."""
    while True:
        form = rand.choice(forms)
        many = inner_count(rand, form, size - 1)
        if many is not None and (many or size == 1):
            break
    inner = [make_term(rand, each, gaps, forms, names) for each in shared_out(rand, size - 1, many)] if many else []
    if form == "num":
        return ("num", rand.choice((0, 1, 7, 10, 999999, rand.randrange(1000000))))
    if form == "name":
        return ("name", rand.choice(names))
    if form == "gap":
        return ("gap", rand.randint(*gaps))
    if form == "op":
        return ("op", rand.choice(OPS), *inner)
    if form == "row":
        return ("row", tuple(inner))
    if form in ("tag", "call"):
        return (form, rand.choice(names), tuple(inner))
    if form == "match":
        arms = [(rand.choice(names), tuple(rand.choice(names) for k in range(rand.randrange(4))), term)
                for term in inner[1:]]
        return ("match", inner[0], tuple(arms))
    if form == "let":
        return ("let", rand.choice(names), *inner)
    if form == "fold":
        return ("fold", inner[0], rand.choice(names), rand.choice(names), inner[1], inner[2])
    return (form, *inner)


def make_terms(seed, many, most=40, gaps=(0, 99)):
    rand = seeded(seed)
    return [make_term(rand, rand.randint(1, most), gaps) for k in range(many)]


def slow_inner(term):
    """The terms right in a term, found by walking its tuple, whatever its form."""
    if term[0] == "match":
        return [term[1]] + [arm[2] for arm in term[2]]
    found = []
    for thing in term[1:]:
        if isinstance(thing, tuple) and thing and isinstance(thing[0], str):
            found.append(thing)
        elif isinstance(thing, tuple):
            found.extend(thing)
    return found


def slow_parts(term):
    found = [term]
    for inner in slow_inner(term):
        found += slow_parts(inner)
    return found


def slow_deep(term):
    return max([1 + slow_deep(inner) for inner in slow_inner(term)], default=0)


def make_kind(rand, most=5, cores=CORES):
    return rows_of(rand.choice(cores), rand.randint(0, most))


def make_program(rand, most=15):
    """A program of the form, let by or not."""
    name = rand.choice
    plain = ("num", ("kind", "abc"), ("kind", "k"))
    params_of = plain + (("open", 0), ("open", 7), ("open", 99))
    kinds = []
    for k in range(rand.randrange(4)):
        tags = [(name(NAMES), tuple(make_kind(rand, 2, plain) for part in range(rand.randrange(3))))
                for tag in range(rand.randint(1, 3))]
        kinds.append((name(NAMES), tuple(tags)))
    defs = []
    for k in range(rand.randint(1, 3)):
        params = tuple((name(NAMES), make_kind(rand, 2, params_of)) for param in range(rand.randrange(4)))
        defs.append((name(NAMES), params, make_term(rand, rand.randint(1, most))))
    return (tuple(kinds), tuple(defs))


def make_thing(rand, size):
    """A thing of exactly this many things."""
    if size == 1:
        return rand.choice((("num", 0), ("num", 999999), ("num", rand.randrange(1000000)), ("left", 0), ("left", 120),
                            ("row", ()), ("tag", rand.choice(NAMES), ())))
    inner = tuple(make_thing(rand, each) for each in shared_out(rand, size - 1, rand.randint(1, min(size - 1, 5))))
    return rand.choice((("row", inner), ("tag", rand.choice(NAMES), inner)))


def slow_kind_text(kind):
    if kind == "num":
        return "num"
    if kind[0] == "row":
        return f"(row {slow_kind_text(kind[1])})"
    return {"kind": "", "open": "?", "any": "'"}[kind[0]] + str(kind[1])


def slow_term_text(term):
    def many(terms):
        return "".join(" " + slow_term_text(inner) for inner in terms)

    def arm_text(arm):
        return " (" + "".join(word + " " for word in (arm[0], *arm[1])) + slow_term_text(arm[2]) + ")"

    form = term[0]
    if form in ("num", "name"):
        return str(term[1])
    if form == "gap":
        return "?" + str(term[1])
    if form == "op":
        return "(" + term[1] + many(term[2:]) + ")"
    if form == "row":
        return "(row" + many(term[1]) + ")"
    if form == "tag":
        return "(" + term[1] + ":" + many(term[2]) + ")"
    if form == "call":
        return "(call " + term[1] + many(term[2]) + ")"
    if form == "match":
        return "(match" + many(term[1:2]) + "".join(arm_text(arm) for arm in term[2]) + ")"
    if form == "let":
        return "(let " + term[1] + many(term[2:]) + ")"
    if form == "fold":
        return "(fold" + many(term[1:2]) + " " + term[2] + " " + term[3] + many(term[4:]) + ")"
    return "(" + form + many(term[1:]) + ")"


def slow_program_text(program):
    rows = []
    for name, tags in program[0]:
        row = "kind " + name
        for tag, kinds in tags:
            row += " (" + tag + "".join(" " + slow_kind_text(kind) for kind in kinds) + ")"
        rows.append(row)
    for name, params, term in program[1]:
        row = "def " + name
        for param, kind in params:
            row += " (" + param + " " + slow_kind_text(kind) + ")"
        rows.append(row + " = " + slow_term_text(term))
    return "\n".join(rows)


def slow_thing_text(thing):
    if thing[0] == "num":
        return str(thing[1])
    if thing[0] == "left":
        return "<" + str(thing[1]) + ">"
    if thing[0] == "row":
        return "[" + " ".join(slow_thing_text(inner) for inner in thing[1]) + "]"
    return "(" + " ".join([thing[1]] + [slow_thing_text(inner) for inner in thing[2]]) + ")"


# A second way to tell what is a text: its innermost brackets are put for one sign, until none is left.
NAME = "(?!(?:" + "|".join(KEPT) + r")\b)[a-z]{1,6}"
FIGURES = "(?:0|[1-9][0-9]{0,5})"
GAP = r"(?:0|[1-9][0-9]?)"
TERM = rf"(?:@|{FIGURES}|{NAME}|\?{GAP})"
TERM_FORM = re.compile(
    rf"\((?:[-+*:<=] {TERM} {TERM}|row(?: {TERM})*|more {TERM} {TERM}|(?:first|others|long) {TERM}"
    rf"|{NAME}:(?: {TERM})*|match {TERM}(?: &)*|if {TERM} {TERM} {TERM}|let {NAME} {TERM} {TERM}"
    rf"|fold {TERM} {NAME} {NAME} {TERM} {TERM}|call {NAME}(?: {TERM})*)\)")
ARM_FORM = re.compile(rf"\({NAME}(?: {NAME})* {TERM}\)")
THING = rf"(?:@|{FIGURES}|<{FIGURES}>)"
THING_FORM = re.compile(rf"\[(?:{THING}(?: {THING})*)?\]|\({NAME}(?: {THING})*\)")


def reduced(text, forms):
    """The text with brackets put for signs; a text that has such a sign itself is told as an empty one."""
    if "@" in text or "&" in text:
        return ""
    while True:
        shorter = text
        for form, sign in forms:
            shorter = form.sub(sign, shorter)
        if shorter == text:
            return text
        text = shorter


def is_term_text(text):
    return re.fullmatch(TERM, reduced(text, [(TERM_FORM, "@"), (ARM_FORM, "&")])) is not None


def is_thing_text(text):
    return re.fullmatch(THING, reduced(text, [(THING_FORM, "@")])) is not None


def kind_pattern(others):
    return rf"(?:@|num|{NAME}{others})"


def kinds_reduced(text, others):
    return reduced(text, [(re.compile(rf"\(row {kind_pattern(others)}\)"), "@")])


ALL_OTHERS = rf"|\?{GAP}|'{GAP}"
PARAM_OTHERS = rf"|\?{GAP}"


def is_kind_text(text):
    return re.fullmatch(kind_pattern(ALL_OTHERS), kinds_reduced(text, ALL_OTHERS)) is not None


def is_kind_row(row):
    shape = rf"kind {NAME}(?: \({NAME}(?: {kind_pattern('')})*\))+"
    return re.fullmatch(shape, kinds_reduced(row, "")) is not None


def is_def_row(row):
    head, mark, text = row.partition(" = ")
    shape = rf"def {NAME}(?: \({NAME} {kind_pattern(PARAM_OTHERS)}\))*"
    return re.fullmatch(shape, kinds_reduced(head, PARAM_OTHERS)) is not None and is_term_text(text)


def first_bad_row(text):
    """The number of the first row by which it can't be a program's text; None where it is one."""
    had_def = False
    rows = text.split("\n")
    for at, row in enumerate(rows):
        if is_def_row(row):
            had_def = True
        elif had_def or not is_kind_row(row):
            return at
    return None if had_def else len(rows)


SIGNS = list(" \n()[]<>'?:;=+-*,._!~^09ab") + list("kQ7\"#$&@|{}/\\`")
WORDS = KEPT + ["a", "abcdef", "abcdefg", "A", "0", "00", "01", "999999", "1000000", "0000000", "?0", "?9", "?99",
                "?100", "?00", "?01", "?", "'0", "'99", "'100", "'00", "'", "a:", "row:", ":", "=", "()", "[]", "<0>",
                "<01>", "<>", "<1234567>", "<?1>", "(row)", "(a:)", "(a)", "( a)", "(a )", "(row num)", "(row ?1)",
                "(abc)", "(a 1)", "[1]", "-1", "+1", "1a", "(a", "a)", "?1)", ""]


def without_or_with(rand, pieces, others):
    """Pieces with one less, more, another one, twice, or exchanged."""
    pieces = list(pieces)
    at = rand.randrange(len(pieces) + 1)
    deed = rand.randrange(5)
    if deed == 0 or at == len(pieces):
        pieces.insert(at, rand.choice(others))
    elif deed == 1:
        del pieces[at]
    elif deed == 2:
        pieces[at] = rand.choice(others)
    elif deed == 3:
        pieces.insert(at, pieces[at])
    else:
        far = rand.randrange(len(pieces))
        pieces[at], pieces[far] = pieces[far], pieces[at]
    return pieces


def otherwise(rand, text):
    """A text with one or two signs or words otherwise."""
    for k in range(rand.randint(1, 2)):
        if rand.randrange(2):
            text = "".join(without_or_with(rand, text, SIGNS))
        else:
            words = re.findall(r"[()\[\]]|\n| |[^()\[\]\n ]+", text)
            text = "".join(without_or_with(rand, words, WORDS))
    return text


def rows_otherwise(rand, text):
    """A program's text with a row less, twice, exchanged, an empty one, half of one, or another one."""
    rows = text.split("\n")
    at = rand.randrange(len(rows))
    half = rows[at][:rand.randrange(len(rows[at]) + 1)]
    others = ["", half, rows[at], "kind k (a)", "kind k", "kind k (a ?0)", "kind k (a (row '1))", "def f = 1", "def f",
              "def f (x '0) = 1", "def f (x (row ?1)) = ?1", "def f (x) = 1", "def f (x num num) = 1", "def num = 1"]
    return "\n".join(without_or_with(rand, rows, others))


def outcome(deed, *given):
    """What a function tells, or the class of its refusal and what that one bears."""
    try:
        return ("told", deed(*given))
    except GapError as error:
        return (type(error).__name__, *vars(error).values())


RIGHT_NAMES = ("x", "y", "z", "acc")


class Maker:
    """Makes programs that are let by, of right kinds by the way in which they are made, with gaps here and there."""

    def __init__(self, rand, size=25, gap=0.1, most_gaps=5):
        self.rand = rand
        self.gap = gap
        self.size = size
        self.free_gaps = rand.sample(range(100), most_gaps)
        self.kinds = []
        self.tags = {}
        self.defs = []

    def any_kind(self, most=2):
        return rows_of(self.rand.choice(["num", "num"] + [("kind", name) for name, tags in self.kinds]),
                       self.rand.randint(0, most))

    def make_kinds(self, many):
        pool = ["t", "u", "v", "w", "tt", "uu", "vv", "ww", "x"]
        for name in self.rand.sample(["k", "l", "x", "f"], many):
            tags = [(pool.pop(0), tuple(self.any_kind(1) for part in range(self.rand.randrange(3))))
                    for tag in range(self.rand.randint(1, 3))]
            self.kinds.append((name, tuple(tags)))
            self.tags.update({tag: parts for tag, parts in tags})

    def leaf(self, kind, env):
        """A term without a choice left but of names; of some kinds tags with terms."""
        names = [name for name, known in env.items() if known == kind]
        if names and self.rand.random() < 0.8:
            return ("name", self.rand.choice(names))
        if kind == "num":
            return ("num", self.rand.choice((0, 0, 1, 2, 3, 999999)))
        if kind[0] == "row":
            return ("row", ())
        tag, parts = self.rand.choice(dict(self.kinds)[kind[1]])
        return ("tag", tag, tuple(self.leaf(part, env) for part in parts))

    def forms(self, kind):
        found = ["if", "let", "first", "fold", "match", "call"]
        if kind == "num":
            found += ["op", "op", "op", "long"]
        elif kind[0] == "row":
            found += ["row", "row", "more", "more", "others"]
        else:
            found += ["tag", "tag"]
        return found

    def term(self, kind, env, fuel):
        if self.free_gaps and self.rand.random() < self.gap:
            return ("gap", self.free_gaps.pop())
        if fuel < 4:
            return self.leaf(kind, env)
        form = self.rand.choice(self.forms(kind))
        if form == "match" and not self.kinds:
            form = "let"
        fitting = [(name, params) for name, params, told in self.defs if told == kind]
        if form == "call" and not fitting:
            form = "if"
        elif fitting and self.rand.random() < 0.3:
            form = "call"
        less = fuel // 2
        if form == "if":
            return ("if", self.term("num", env, less // 2), self.term(kind, env, less), self.term(kind, env, less))
        if form == "let":
            name, inner = self.rand.choice(RIGHT_NAMES), self.any_kind()
            return ("let", name, self.term(inner, env, less), self.term(kind, {**env, name: inner}, less))
        if form == "first":
            return ("first", self.term(("row", kind), env, fuel - 1))
        if form == "fold":
            (x, y), inner = self.rand.sample(RIGHT_NAMES, 2), self.any_kind(1)
            return ("fold", self.term(("row", inner), env, less), x, y, self.term(kind, env, less // 2),
                    self.term(kind, {**env, x: inner, y: kind}, less))
        if form == "match":
            name, tags = self.rand.choice(self.kinds)
            arms = []
            for tag, parts in self.rand.sample(tags, len(tags)):
                names = tuple(self.rand.sample(RIGHT_NAMES, len(parts)))
                arms.append((tag, names, self.term(kind, {**env, **dict(zip(names, parts))}, less // len(tags))))
            return ("match", self.term(("kind", name), env, less), tuple(arms))
        if form == "call":
            name, params = self.rand.choice(fitting)
            return ("call", name, tuple(self.term(param, env, less) for param in params))
        if form == "op":
            return ("op", self.rand.choice(OPS), self.term("num", env, less), self.term("num", env, less))
        if form == "long":
            return ("long", self.term(("row", self.any_kind(1)), env, fuel - 1))
        if form == "row":
            many = self.rand.randrange(4)
            return ("row", tuple(self.term(kind[1], env, fuel // (many + 1)) for k in range(many)))
        if form == "more":
            return ("more", self.term(kind[1], env, less), self.term(kind, env, less))
        if form == "others":
            return ("others", self.term(kind, env, fuel - 1))
        tag, parts = self.rand.choice(dict(self.kinds)[kind[1]])
        return ("tag", tag, tuple(self.term(part, env, less) for part in parts))

    def program(self, kinds=None, defs=None):
        rand = self.rand
        self.make_kinds(rand.randrange(4) if kinds is None else kinds)
        made = []
        for name in rand.sample(["f", "g", "x", "k"], rand.randint(1, 3) if defs is None else defs):
            params = [(x, self.any_kind()) for x in rand.sample(RIGHT_NAMES, rand.randrange(4))]
            kind = self.any_kind()
            made.append((name, tuple(params), self.term(kind, dict(params), rand.randint(1, self.size))))
            self.defs.append((name, [known for x, known in params], kind))
        return (tuple(self.kinds), tuple(made))


def opened(rand, program, most=3):
    """The program with open kinds put in the place of kinds of params, or of what is within their rows."""
    free = rand.sample(range(100), most)
    defs = []
    for name, params, term in program[1]:
        others = []
        for x, kind in params:
            depth = 0
            while kind[0] == "row" and rand.randrange(2):
                kind = kind[1]
                depth += 1
            if free and rand.randrange(2):
                kind = ("open", free.pop())
            others.append((x, rows_of(kind, depth)))
        defs.append((name, tuple(others), term))
    return (program[0], tuple(defs))


def within_bounds(program):
    """Whether a program has terms of the bounds that programs handed in keep to."""
    return all(len(slow_parts(term)) <= 40 and slow_deep(term) <= 9 for name, params, term in program[1])


def right_programs(seed, many, size=25, gap=0.1, opens=True):
    """Programs that are let by, within the bounds."""
    rand = seeded(seed)
    told = []
    while len(told) < many:
        program = Maker(rand, size, gap).program()
        if opens:
            program = opened(rand, program)
        if within_bounds(program):
            told.append(program)
    return told


def texts_in(thing):
    """All texts that stand in tuples within one another, in order, each as often as it stands."""
    if isinstance(thing, str):
        return [thing]
    if isinstance(thing, tuple):
        return [text for inner in thing for text in texts_in(inner)]
    return []


def renamed(program, deed):
    """The program with each name as the deed tells it of its sort (kind, tag, def, name) and itself."""
    def kind(here):
        if here[0] == "row":
            return ("row", kind(here[1]))
        return ("kind", deed("kind", here[1])) if here[0] == "kind" else here

    def name(x):
        return deed("name", x)

    def term(here):
        form = here[0]
        if form == "name":
            return ("name", name(here[1]))
        if form in ("tag", "call"):
            sort = "tag" if form == "tag" else "def"
            return (form, deed(sort, here[1]), tuple(term(inner) for inner in here[2]))
        if form == "row":
            return ("row", tuple(term(inner) for inner in here[1]))
        if form == "match":
            arms = [(deed("tag", tag), tuple(name(x) for x in names), term(inner)) for tag, names, inner in here[2]]
            return ("match", term(here[1]), tuple(arms))
        if form == "let":
            return ("let", name(here[1]), term(here[2]), term(here[3]))
        if form == "fold":
            return ("fold", term(here[1]), name(here[2]), name(here[3]), term(here[4]), term(here[5]))
        return tuple(term(inner) if isinstance(inner, tuple) else inner for inner in here)

    kinds = [(deed("kind", k), tuple((deed("tag", t), tuple(kind(part) for part in parts)) for t, parts in tags))
             for k, tags in program[0]]
    defs = [(deed("def", f), tuple((name(x), kind(known)) for x, known in params), term(body))
            for f, params, body in program[1]]
    return (tuple(kinds), tuple(defs))


def slow_filled(program, terms, kinds):
    """The program with gaps and open kinds put, by dicts, at all their places."""
    def kind(here):
        if here[0] == "row":
            return ("row", kind(here[1]))
        return kinds.get(here[1], here) if here[0] == "open" else here

    def go(here):
        if not isinstance(here, tuple):
            return here
        if here and here[0] == "gap":
            return terms.get(here[1], here)
        return tuple(go(inner) for inner in here)

    return (program[0], tuple((name, tuple((x, kind(known)) for x, known in params), go(term))
                              for name, params, term in program[1]))


def exact_term(program, kind):
    """A term without names, calls, gaps that has this kind and no other one."""
    if kind == "num":
        return ("num", 0)
    if kind[0] == "row":
        return ("row", (exact_term(program, kind[1]),))
    tag, parts = dict(program[0])[kind[1]][0]
    return ("tag", tag, tuple(exact_term(program, part) for part in parts))


class SlowKinds:
    """Kinds found from below, with kinds as they are told; letters are numbers, and what is put is put everywhere."""

    def __init__(self):
        self.put = {}
        self.many = 0

    def letter(self):
        self.many += 1
        return ("any", self.many - 1)

    def settled(self, kind):
        if kind[0] == "row":
            return ("row", self.settled(kind[1]))
        if kind[0] == "any" and kind[1] in self.put:
            return self.settled(self.put[kind[1]])
        return kind

    def join(self, one, other):
        """Whether two kinds could be made the same."""
        one, other = self.settled(one), self.settled(other)
        if one == other:
            return True
        if one[0] == "any":
            if one in self.layers(other):
                return False
            self.put[one[1]] = other
            return True
        if other[0] == "any":
            return self.join(other, one)
        return one[0] == other[0] == "row" and self.join(one[1], other[1])

    def layers(self, kind):
        return [kind] + (self.layers(kind[1]) if kind[0] == "row" else [])

    def lettered(self, kinds):
        """Kinds with letters from 0 on as they come up."""
        numbers = {}

        def go(kind):
            if kind[0] == "row":
                return ("row", go(kind[1]))
            return ("any", numbers.setdefault(kind[1], len(numbers))) if kind[0] == "any" else kind

        return [go(self.settled(kind)) for kind in kinds]


class Wrong(Exception):
    """Kinds that can't be the same."""


class SlowFinder:
    def __init__(self, program):
        self.kinds = SlowKinds()
        self.tags = {tag: (("kind", k), parts) for k, own in program[0] for tag, parts in own}
        self.gaps, self.opens, self.defs = {}, {}, {}
        for name, params, term in program[1]:
            known = [(x, self.without_open(kind)) for x, kind in params]
            self.defs[name] = ([kind for x, kind in known], self.kind(term, known))
        self.last = self.defs[program[1][-1][0]]

    def without_open(self, kind):
        if kind[0] == "row":
            return ("row", self.without_open(kind[1]))
        if kind[0] == "open":
            self.opens[kind[1]] = self.kinds.letter()
            return self.opens[kind[1]]
        return kind

    def same(self, one, *others):
        for other in others:
            if not self.kinds.join(one, other):
                raise Wrong()
        return one

    def row(self, kind):
        inner = self.kinds.letter()
        self.same(kind, ("row", inner))
        return inner

    def kind(self, term, known):
        def of(inner, *more):
            return self.kind(inner, known + list(more))

        form = term[0]
        if form == "num":
            return "num"
        if form == "name":
            return [kind for x, kind in known if x == term[1]][-1]
        if form == "op":
            return self.same("num", of(term[2]), of(term[3]))
        if form == "row":
            return ("row", self.same(self.kinds.letter(), *[of(inner) for inner in term[1]]))
        if form == "more":
            return self.same(of(term[2]), ("row", of(term[1])))
        if form == "first":
            return self.row(of(term[1]))
        if form == "others":
            return ("row", self.row(of(term[1])))
        if form == "long":
            self.row(of(term[1]))
            return "num"
        if form == "tag":
            kind, parts = self.tags[term[1]]
            for inner, part in zip(term[2], parts):
                self.same(of(inner), part)
            return kind
        if form == "match":
            self.same(of(term[1]), self.tags[term[2][0][0]][0])
            arms = [of(inner, *zip(names, self.tags[tag][1])) for tag, names, inner in term[2]]
            return self.same(*arms)
        if form == "if":
            self.same("num", of(term[1]))
            return self.same(of(term[2]), of(term[3]))
        if form == "let":
            return of(term[3], (term[1], of(term[2])))
        if form == "fold":
            inner = self.row(of(term[1]))
            told = of(term[4])
            return self.same(told, of(term[5], (term[2], inner), (term[3], told)))
        if form == "call":
            params, told = self.defs[term[1]]
            for inner, param in zip(term[2], params):
                self.same(of(inner), param)
            return told
        names = {x: kind for x, kind in known}
        order = [x for k, (x, kind) in enumerate(known) if x not in [y for y, other in known[k + 1:]]]
        self.gaps[term[1]] = ([(x, names[x]) for x in order], self.kinds.letter())
        return self.gaps[term[1]][1]


def slow_all_kinds(program):
    """Gaps' kinds, open kinds, the last def's kinds; None where they aren't right."""
    try:
        found = SlowFinder(program)
    except Wrong:
        return None
    numbers, opens = sorted(found.gaps), sorted(found.opens)
    flat = [kind for n in numbers for kind in [k for x, k in found.gaps[n][0]] + [found.gaps[n][1]]]
    flat = found.kinds.lettered(flat + [found.opens[n] for n in opens])
    gaps = {}
    for n in numbers:
        names = [x for x, kind in found.gaps[n][0]]
        gaps[n] = (tuple(zip(names, flat)), flat[len(names)])
        flat = flat[len(names) + 1:]
    *params, told = found.kinds.lettered(found.last[0] + [found.last[1]])
    return gaps, dict(zip(opens, flat)), (tuple(params), told)


def make_of(rand, program, kind, size=5):
    """A closed thing of a kind."""
    if kind == "num":
        return ("num", rand.choice((0, 1, 2, 3, 999999, rand.randrange(1000000))))
    if kind[0] == "row":
        many = rand.randrange(min(size, 4) + 1)
        return ("row", tuple(make_of(rand, program, kind[1], size // 2) for k in range(many)))
    tag, parts = rand.choice(dict(program[0])[kind[1]])
    return ("tag", tag, tuple(make_of(rand, program, part, size // 2) for part in parts))


class SlowFault(Exception):
    """A fault of a run."""


class SlowTooLong(Exception):
    """More doings than were let."""


class SlowRun:
    """A run by recursion, with what is at hand as a list of pairs, the nearest last."""

    def __init__(self, program, most):
        self.defs = {f: (params, term) for f, params, term in program[1]}
        self.most = most
        self.many = 0
        self.rows = []

    def doing(self):
        if self.many == self.most:
            raise SlowTooLong()
        self.many += 1

    def left(self, *row):
        self.rows.append(row)
        return ("left", len(self.rows) - 1)

    def around(self, env):
        return tuple((x, thing) for k, (x, thing) in enumerate(env) if x not in [y for y, other in env[k + 1:]])

    def go(self, term, env):
        return getattr(self, "go_" + term[0])(env, *term[1:])

    def go_all(self, terms, env):
        return tuple(self.go(term, env) for term in terms)

    def go_num(self, env, n):
        return ("num", n)

    def go_name(self, env, name):
        return next(thing for x, thing in env[::-1] if x == name)

    def go_gap(self, env, n):
        return self.left("gap", n, self.around(env))

    def go_row(self, env, terms):
        return ("row", self.go_all(terms, env))

    def go_tag(self, env, tag, terms):
        return ("tag", tag, self.go_all(terms, env))

    def go_op(self, env, sign, *terms):
        a, b = self.go_all(terms, env)
        if sign == ":" and b == ("num", 0):
            raise SlowFault()
        if "left" in (a[0], b[0]):
            return self.left("op", sign, a, b)
        self.doing()
        deeds = {"+": int.__add__, "-": int.__sub__, "*": int.__mul__, ":": int.__mod__, "<": int.__lt__,
                 "=": int.__eq__}
        return ("num", int(deeds[sign](a[1], b[1])) % 1000000)

    def go_more(self, env, *terms):
        a, b = self.go_all(terms, env)
        if b[0] == "left":
            return self.left("more", a, b)
        self.doing()
        return ("row", (a, *b[1]))

    def of_row(self, env, form, term, deed):
        a = self.go(term, env)
        if a[0] == "left":
            return self.left(form, a)
        if form != "long" and a[1] == ():
            raise SlowFault()
        self.doing()
        return deed(*a[1])

    def go_first(self, env, term):
        return self.of_row(env, "first", term, lambda first, *others: first)

    def go_others(self, env, term):
        return self.of_row(env, "others", term, lambda first, *others: ("row", others))

    def go_long(self, env, term):
        return self.of_row(env, "long", term, lambda *all_of_it: ("num", len(all_of_it)))

    def go_match(self, env, term, arms):
        a = self.go(term, env)
        if a[0] == "left":
            return self.left("match", a, arms, self.around(env))
        self.doing()
        (names, inner), = [arm[1:] for arm in arms if arm[0] == a[1]]
        return self.go(inner, env + list(zip(names, a[2])))

    def go_if(self, env, term, yes, no):
        a = self.go(term, env)
        if a[0] == "left":
            return self.left("if", a, yes, no, self.around(env))
        self.doing()
        return self.go(yes if a != ("num", 0) else no, env)

    def go_let(self, env, x, term, inner):
        return self.go(inner, env + [(x, self.go(term, env))])

    def go_fold(self, env, term, x, y, begun, inner):
        a = self.go(term, env)
        so_far = self.go(begun, env)
        if a[0] == "left":
            return self.left("fold", a, x, y, so_far, inner, self.around(env))
        for thing in a[1]:
            self.doing()
            so_far = self.go(inner, env + [(x, thing), (y, so_far)])
        return so_far

    def go_call(self, env, f, terms):
        things = self.go_all(terms, env)
        self.doing()
        params, inner = self.defs[f]
        return self.go(inner, [(x, thing) for (x, kind), thing in zip(params, things)])


def slow_run(program, inputs, most):
    """What a run tells, or ("TooLong", most)."""
    work = SlowRun(program, most)
    params, term = work.defs[program[1][-1][0]]
    try:
        thing = work.go(term, [(x, each) for (x, kind), each in zip(params, inputs)])
    except SlowFault:
        return ("told", ("fault",))
    except SlowTooLong:
        return ("TooLong", most)
    return ("told", ("sheet", (thing, tuple(work.rows)), work.many))


def runs_to_do(seed, many, size=25, gap=0.1):
    """Programs that may be run, each with inputs for it."""
    rand = seeded(seed)
    told = []
    while len(told) < many:
        program = opened(rand, Maker(rand, size, gap).program())
        if within_bounds(program):
            params = slow_all_kinds(program)[2][0]
            if "any" not in texts_in(params):
                told.append((program, tuple(make_of(rand, program, kind) for kind in params)))
    return told


def fresh_gaps(rand, program, many):
    """Numbers of gaps of terms that don't stand in a program."""
    stands = [part[1] for name, params, term in program[1] for part in slow_parts(term) if part[0] == "gap"]
    return rand.sample([n for n in range(100) if n not in stands], many)


def with_letters(kind, puts):
    """A kind with kinds, by a dict from letters' numbers, in the place of its letter."""
    if kind[0] == "row":
        return ("row", with_letters(kind[1], puts))
    return puts[kind[1]] if kind[0] == "any" else kind


def defs_to_call(program, before, without_gaps):
    """Of the defs ahead of one those of kinds without letters, as makers hold them; without gaps in them or in what
    they call, where that is asked for."""
    finder, told, with_gaps = SlowFinder(program), [], []
    for name, params, term in program[1]:
        if name == before:
            break
        kinds = finder.kinds.lettered(finder.defs[name][0] + [finder.defs[name][1]])
        parts = slow_parts(term)
        if any(part[0] == "gap" or (part[0] == "call" and part[1] in with_gaps) for part in parts):
            with_gaps.append(name)
        if "any" not in texts_in(tuple(kinds)) and not (without_gaps and name in with_gaps):
            told.append((name, kinds[:-1], kinds[-1]))
    return told


def make_fillings(rand, program, some=0.6, gap=0.0, size=8, own=0.0):
    """Fillings of some gaps and open kinds by which a program stays let by; with gaps again where gap isn't 0."""
    of_gaps, of_opens, last = slow_all_kinds(program)
    maker = Maker(rand, gap=gap, most_gaps=0)
    maker.kinds = list(program[0])
    maker.tags = {tag: parts for name, tags in program[0] for tag, parts in tags}
    puts = {n: maker.any_kind() for n in range(20)}
    fresh = fresh_gaps(rand, program, 10)
    terms = []
    for name, params, body in program[1]:
        maker.defs = defs_to_call(program, name, not gap)
        for n in [part[1] for part in slow_parts(body) if part[0] == "gap"]:
            if rand.random() < some:
                env = {x: with_letters(kind, puts) for x, kind in of_gaps[n][0]}
                maker.free_gaps = ([fresh.pop() for k in range(2)] if len(fresh) > 1 and gap else [])
                maker.free_gaps += [n] if rand.random() < own else []
                terms.append((n, maker.term(with_letters(of_gaps[n][1], puts), env, rand.randint(1, size))))
    kinds = [(n, with_letters(kind, puts)) for n, kind in of_opens.items() if rand.random() < some]
    rand.shuffle(terms)
    return tuple(terms), tuple(kinds)


def fillings(text, read):
    """Fillings by rows `N TEXT`, parted by semicolons."""
    pairs = [each.split(" ", 1) for each in text.split("; ")] if text else []
    return tuple((int(n), read(put)) for n, put in pairs)


def slow_musts(program, wants, most):
    """What gaps must tell by wants, with all that is wanted of a row in a list."""
    told = []
    for k, (inputs, answer) in enumerate(wants):
        came = slow_run(program, inputs, most)
        if came[0] != "told":
            return came
        if came[1] == ("fault",):
            return ("told", ("never", k))
        thing, rows = came[1][1]
        wanted = {at: [] for at in range(len(rows))}
        verdicts = slow_want(wanted, thing, answer)
        for at, row in reversed(list(enumerate(rows))):
            verdicts |= slow_back(wanted, at, row)
            if row[0] == "gap":
                told.append((row[1], k, at, row[2], wanted[at][0] if wanted[at] else None))
        for word in ("never", "open"):
            if word in verdicts:
                return ("told", (word, k))
    return ("told", ("musts", [(n, around, thing) for n, k, at, around, thing in sorted(told, key=lambda x: x[:3])]))


def slow_want(wanted, thing, answer):
    """What is wrong where a thing is to be the answer; what is wanted of rows is kept."""
    if thing[0] == "left":
        wanted[thing[1]].append(answer)
        return set()
    if thing[0] == "num" or answer[0] == "num":
        return set() if thing == answer else {"never"}
    if thing[:-1] != answer[:-1] or len(thing[-1]) != len(answer[-1]):
        return {"never"}
    return set().union(*[slow_want(wanted, one, other) for one, other in zip(thing[-1], answer[-1])])


def slow_back(wanted, at, row):
    """What is wrong at a row with what is wanted of it."""
    if any(each != wanted[at][0] for each in wanted[at]):
        return {"never"}
    if row[0] == "gap":
        return {"open"} if "left" in texts_in(tuple(thing for name, thing in row[2])) else set()
    if not wanted[at]:
        quiet = row[0] in ("more", "long") or (row[0] == "op" and row[1] != ":")
        return set() if quiet else {"open"}
    told = wanted[at][0]
    if row[0] == "more":
        if told[1] == ():
            return {"never"}
        first, *others = told[1]
        return slow_want(wanted, row[1], first) | slow_want(wanted, row[2], ("row", tuple(others)))
    if row[0] == "op" and row[1] in "+-" and "num" in (row[2][0], row[3][0]):
        # Tried: the number that the side which isn't there must be is one of these.
        side = 2 if row[2][0] == "left" else 3
        here = row[5 - side][1]
        for n in ((told[1] - here) % 1000000, (told[1] + here) % 1000000, (here - told[1]) % 1000000):
            a, b = (n, here) if side == 2 else (here, n)
            if (a + b if row[1] == "+" else a - b) % 1000000 == told[1]:
                return slow_want(wanted, row[side], ("num", n))
    return {"open"}


class BruteSearch:
    """All terms of a search up to a size, none left out for what it tells, each run by itself."""

    def __init__(self, program, n, musts, numbers, size):
        self.program, self.musts = program, musts
        self.names, self.goal = slow_all_kinds(program)[0][n]
        self.numbers = numbers
        self.kinds = []
        for kind in ["num", self.goal] + [kind for name, kind in self.names]:
            self.come_up(kind)
        # By kinds and sizes: a dict from terms to what they tell.
        self.terms = {}
        for now in range(1, size + 1):
            for kind in self.kinds:
                told = {term: self.values(term) for term in self.of_size(kind, now)}
                self.terms[kind, now] = {term: values for term, values in told.items()
                                         if any(value != ("fault",) for value in values)}

    def come_up(self, kind):
        if kind not in self.kinds:
            self.kinds.append(kind)
            for tag, parts in dict(self.program[0])[kind[1]] if kind[0] == "kind" else [("", kind[1:])]:
                for part in parts if kind != "num" else ():
                    self.come_up(part)

    def value(self, term, around):
        try:
            return SlowRun(self.program, 10 ** 6).go(term, list(around))
        except SlowFault:
            return ("fault",)

    def values(self, term):
        return tuple(self.value(term, around) for n, around, thing in self.musts)

    def all_of(self, kinds, total):
        """All tuples of terms of these kinds, of this many parts in all."""
        if not kinds:
            return [()] if total == 0 else []
        return [(first, *others) for size in range(1, total + 1) for first in self.terms.get((kinds[0], size), ())
                for others in self.all_of(kinds[1:], total - size)]

    def of_size(self, kind, size):
        told = []
        if size == 1:
            told += [("name", name) for name, own in self.names if own == kind]
            told += [("num", n) for n in self.numbers if kind == "num"]
            told += [("row", ())] if kind[0] == "row" else []
        if kind == "num":
            told += [("op", sign, *pair) for sign in OPS for pair in self.all_of(["num", "num"], size - 1)]
            told += [("long", term) for own in self.kinds if own[0] == "row"
                     for term, in self.all_of([own], size - 1)]
        if ("row", kind) in self.kinds:
            told += [("first", term) for term, in self.all_of([("row", kind)], size - 1)]
        if kind[0] == "row":
            told += [("others", term) for term, in self.all_of([kind], size - 1)]
            told += [("more", *pair) for pair in self.all_of([kind[1], kind], size - 1)]
        if kind[0] == "kind":
            told += [("tag", tag, terms) for tag, parts in dict(self.program[0])[kind[1]]
                     for terms in self.all_of(list(parts), size - 1)]
        return told + [("if", *three) for three in self.all_of(["num", kind, kind], size - 1)]

    def right(self, values):
        return all(value != ("fault",) and thing in (None, value)
                   for value, (n, around, thing) in zip(values, self.musts))

    def least(self, size):
        """By kinds and what is told: the least size, up to this one."""
        told = {}
        for (kind, now), terms in self.terms.items():
            for values in terms.values():
                if now <= size:
                    told.setdefault((kind, values), now)
        return told

    def found(self, size):
        """The least size of a term that is searched for, or None."""
        for now in range(1, size + 1):
            if any(self.right(values) for values in self.terms[self.goal, now].values()):
                return now
        return None

    def paper_holds(self, size, rows):
        """What point 26 says of a paper, word by word."""
        sizes = [row[3] for row in rows]
        there = {}
        for kind, values, term, own in rows:
            if self.terms.get((kind, own), {}).get(term) != values or not 1 <= own <= size:
                return False
            if (kind, values) in there or (kind == self.goal and self.right(values)):
                return False
            there[kind, values] = own
        known = [row[2] for row in rows]
        for (kind, now), terms in self.terms.items():
            for term, values in terms.items():
                if now <= size and all(inner in known for inner in slow_inner(term)):
                    if there.get((kind, values), now + 1) > now:
                        return False
        return sizes == sorted(sizes)


def searches_to_do(seed, many):
    """Programs, a gap of each whose kinds have no letters, musts for it, numbers."""
    rand = seeded(seed)
    told = []
    for program in right_programs(rand.randrange(10 ** 6), 40 * many, size=12, gap=0.2, opens=False):
        kinds = slow_all_kinds(program)[0]
        fitting = [n for n in kinds if "any" not in texts_in(kinds[n])]
        if not fitting or len(told) == many:
            continue
        names, kind = kinds[fitting[0]]
        wanted = []
        for k in range(rand.randint(1, 3)):
            around = tuple((name, make_of(rand, program, own, 3)) for name, own in names)
            thing = make_of(rand, program, kind, 2) if rand.random() < 0.8 else None
            # Often one that a name tells, so that there is something to be found.
            same = [each for (name, own), (name, each) in zip(names, around) if own == kind]
            wanted.append((fitting[0], around, rand.choice(same) if same and rand.random() < 0.4 else thing))
        numbers = tuple(sorted(rand.sample((0, 1, 2, 7, 999999), rand.randrange(3))))
        told.append((program, fitting[0], wanted, numbers))
    return told


def must_of(names, text):
    """A must of gap 1 by things for these names and the wanted thing, or `any`; blanks in them as `_`."""
    *inputs, to, wanted = text.split(" ")
    assert to == "to"
    around = tuple((name, read_thing(each.replace("_", " "))) for name, each in zip(names, inputs, strict=True))
    return (1, around, None if wanted == "any" else read_thing(wanted.replace("_", " ")))


def things(texts):
    return [read_thing(text) for text in texts]


def around(**names):
    """The names at hand, in order, with the texts of their things."""
    return tuple((name, read_thing(text)) for name, text in names.items())


def arms(text):
    return read_term(f"(match 0 {text})")[2]
