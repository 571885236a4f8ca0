import unittest

from gapwork.errors import NoName, Twice, WrongCount
from gapwork.names import look_names
from gapwork.reader import read_program
from tests.helper import (RIGHT_NAMES, make_program, outcome, renamed, right_programs, rows_of, seeded)

# Programs' texts, each refused for one thing alone.
OF_KINDS = [
    ("kind k (t)\nkind k (u)\ndef f = 1", Twice, "k"),
    ("kind k (t)\nkind l (u)\nkind k (v)\ndef f = 1", Twice, "k"),
    ("kind k (t) (t)\ndef f = 1", Twice, "t"),
    ("kind k (t) (u) (t num)\ndef f = 1", Twice, "t"),
    ("kind k (t)\nkind l (u) (t)\ndef f = 1", Twice, "t"),
    ("kind k (t k)\ndef f = 1", NoName, "k"),
    ("kind k (t) (u num (row (row k)))\ndef f = 1", NoName, "k"),
    ("kind k (t l)\nkind l (u)\ndef f = 1", NoName, "l"),
    ("kind k (t) (u num (row l))\nkind l (v)\ndef f = 1", NoName, "l"),
    ("kind k (t t)\ndef f = 1", NoName, "t"),
    ("kind k (t f)\ndef f = 1", NoName, "f"),
]
OF_DEFS = [
    ("def f = 1\ndef f = 2", Twice, "f"),
    ("def f = 1\ndef g = 1\ndef f (x num) = 2", Twice, "f"),
    ("def f (x num) (x num) = 1", Twice, "x"),
    ("def f (x num) (y num) (x (row num)) = 1", Twice, "x"),
    ("def f (x k) = 1", NoName, "k"),
    ("def f (y num) (x (row (row k))) = 1", NoName, "k"),
    ("kind l (t)\ndef f (x t) = 1", NoName, "t"),
    ("kind l (t)\ndef f (x f) = 1", NoName, "f"),
    ("def f (x ?1) (y ?1) = 1", Twice, "?"),
    ("def f (x ?1) (y ?2) (z (row ?1)) = 1", Twice, "?"),
    ("def f (x ?1) = 1\ndef g (x (row (row ?1))) = 1", Twice, "?"),
    ("def f (x ?0) = 1\ndef g = 1\ndef h (z num) (y ?0) = 1", Twice, "?"),
]
OF_TERMS = [
    ("def f = x", NoName, "x"),
    ("def f (x num) = (+ x y)", NoName, "y"),
    ("def f = (let x x 1)", NoName, "x"),
    ("def f = (+ (let x 1 x) x)", NoName, "x"),
    ("kind k (t num)\ndef f (z k) = (match (row x) (t x x))", NoName, "x"),
    ("kind k (t num) (u num)\ndef f (z k) = (match z (t x x) (u y x))", NoName, "x"),
    ("kind k (t num) (u num)\ndef f (z k) = (match z (u y y) (t x y))", NoName, "y"),
    ("def f = (fold x x y 1 1)", NoName, "x"),
    ("def f = (fold (row) x y x 1)", NoName, "x"),
    ("def f = (fold (row) x y y 1)", NoName, "y"),
    ("def f = (+ (fold (row) x y 1 (+ x y)) y)", NoName, "y"),
    ("def f (x num) = 1\ndef g = x", NoName, "x"),
    ("def f = 1\ndef g = f", NoName, "f"),
    ("kind k (t)\ndef f = t", NoName, "t"),
    ("def f = (t:)", NoName, "t"),
    ("kind t (u)\ndef f = (t:)", NoName, "t"),
    ("def f = 1\ndef g = (f:)", NoName, "f"),
    ("def f = (call g)", NoName, "g"),
    ("def f = (call f)", NoName, "f"),
    ("def f = (call g)\ndef g = 1", NoName, "g"),
    ("kind k (t)\ndef f = (call t)", NoName, "t"),
    ("def f (x num) = (call x)", NoName, "x"),
    ("kind k (t num)\ndef f = (t:)", WrongCount, "t"),
    ("kind k (t num)\ndef f = (t: 1 2)", WrongCount, "t"),
    ("kind k (t)\ndef f = (t: 1)", WrongCount, "t"),
    ("def f = 1\ndef g = (call f 1)", WrongCount, "f"),
    ("def f (x num) = 1\ndef g = (call f)", WrongCount, "f"),
    ("def f (x num) (y num) = 1\ndef g = (call f 1 2 3)", WrongCount, "f"),
    ("def f = (fold (row) x x 1 1)", Twice, "x"),
    ("def f = (+ ?1 ?1)", Twice, "?"),
    ("def f = (if ?0 (row ?1 ?2) (let x 1 (first ?0)))", Twice, "?"),
    ("def f = ?1\ndef g = 1\ndef h = (row 1 ?1)", Twice, "?"),
]
OF_MATCHES = [
    ("def f = (match 1)", NoName, "match"),
    ("kind k (t)\ndef f (x k) = (match x)", NoName, "match"),
    ("def f = (match 1 (t 1))", NoName, "t"),
    ("kind k (t)\ndef f = (match 1 (t 1) (u 1))", NoName, "u"),
    ("kind k (t)\ndef f = (match 1 (k 1))", NoName, "k"),
    ("kind k (t) (u)\ndef f = (match 1 (t 1))", WrongCount, "match"),
    ("kind k (t) (u)\ndef f = (match 1 (u 1))", WrongCount, "match"),
    ("kind k (t) (u)\ndef f = (match 1 (t 1) (u 1) (t 1))", WrongCount, "match"),
    ("kind k (t) (u)\ndef f = (match 1 (t 1) (t 1))", WrongCount, "match"),
    ("kind k (t)\nkind l (u)\ndef f = (match 1 (t 1) (u 1))", WrongCount, "match"),
    ("kind k (t) (tt)\nkind l (u)\ndef f = (match 1 (t 1) (u 1))", WrongCount, "match"),
    ("kind k (t) (u num)\ndef f = (match 1 (t 1) (u 1))", WrongCount, "u"),
    ("kind k (t) (u num)\ndef f = (match 1 (u x y 1) (t 1))", WrongCount, "u"),
    ("kind k (t)\ndef f = (match 1 (t x 1))", WrongCount, "t"),
    ("kind k (t num num)\ndef f = (match 1 (t x x 1))", Twice, "x"),
    ("kind k (t) (u num num num)\ndef f = (match 1 (t 1) (u x y y 1))", Twice, "y"),
]
ALONE = OF_KINDS + OF_DEFS + OF_TERMS + OF_MATCHES

# Programs' texts, each refused for the first of several things.
ORDERS = [
    # Kinds by themselves: a kind's name, then tag by tag its name and its parts.
    ("kind k (t)\nkind k (t k)\ndef f = 1", Twice, "k"),
    ("kind k (t)\nkind l (t m) (v v)\ndef f = 1", Twice, "t"),
    ("kind k (t m) (t)\ndef f = 1", NoName, "m"),
    ("kind k (t n m) (u)\nkind k (u)\ndef f = 1", NoName, "n"),
    ("kind k (t)\nkind l (u m) (t)\nkind k (w)\ndef f = 1", NoName, "m"),
    # Kinds ahead of defs.
    ("kind k (t k)\ndef f (x m) = y\ndef f = 1", NoName, "k"),
    ("kind k (t)\nkind l (t)\ndef f (x num) (x num) = 1", Twice, "t"),
    # A def's name, its params each by name and kind, its term; def by def.
    ("def f = 1\ndef f (x k) = y", Twice, "f"),
    ("def f (x k) (x num) = y", NoName, "k"),
    ("def f (x num) (x k) = y", Twice, "x"),
    ("def f (x ?1) (y ?1) (y l) = z", Twice, "?"),
    ("def f (x ?1) (x ?1) = z", Twice, "x"),
    ("def f (x k) = y\ndef f = 1", NoName, "k"),
    ("def f (x num) = y\ndef f (x num) (x num) = 1", NoName, "y"),
    ("def f (x num) = (call g)\ndef g (x k) = ?1", NoName, "g"),
    ("def f (x ?1) = y\ndef g (x ?1) = 1", NoName, "y"),
    # A term ahead of its parts, these in order, each with all of its own parts.
    ("def f = (t: x)", NoName, "t"),
    ("kind k (t)\ndef f = (t: x)", WrongCount, "t"),
    ("def f = (call g x y)", NoName, "g"),
    ("def f = 1\ndef g = (call f x)", WrongCount, "f"),
    ("def f = (fold x x x y z)", Twice, "x"),
    ("def f = (fold v x y z w)", NoName, "v"),
    ("def f = (fold 1 x y z w)", NoName, "z"),
    ("def f = (+ (row 1 (- 1 y)) x)", NoName, "y"),
    ("def f = (if (t:) x (call g))", NoName, "t"),
    ("def f = (if 1 x (call g))", NoName, "x"),
    ("def f = (if 1 1 (call g x))", NoName, "g"),
    ("def f = (let x (let y x (t:)) z)", NoName, "x"),
    ("def f = (more (row ?1 ?1) x)", Twice, "?"),
    ("def f = (more (row ?1 x) ?1)", NoName, "x"),
    ("def f = ?3\ndef g (x num) = (row ?3 y)", Twice, "?"),
    # A match's own faults in their order, then its parts.
    ("kind k (t) (u)\ndef f = (match x (t y) (w 1))", NoName, "w"),
    ("kind k (t) (u)\ndef f = (match 1 (w 1) (t x 1) (ww 1))", NoName, "w"),
    ("kind k (t) (u num num)\ndef f = (match x (u y y z))", WrongCount, "match"),
    ("kind k (t num) (u num num)\ndef f = (match x (u y y z) (t 1))", Twice, "y"),
    ("kind k (t num) (u num num)\ndef f = (match x (t 1) (u y y z))", WrongCount, "t"),
    ("kind k (t num)\ndef f = (match x (t y z))", NoName, "x"),
    ("kind k (t num)\ndef f = (match 1 (t y (row z w)))", NoName, "z"),
    ("kind k (t num)\ndef f = (+ (match ?1 (t y ?1)) x)", Twice, "?"),
    ("def f = (match x)", NoName, "match"),
]


def look_slowly(program):
    """The first refusal of all that are due, in order; else what is told."""
    for refusal in all_due(program):
        return refusal
    return ("told", True)


def core(kind):
    return core(kind[1]) if kind[0] == "row" else kind


def all_due(program):
    kinds, defs = program
    for at, (name, tags) in enumerate(kinds):
        if name in [other[0] for other in kinds[:at]]:
            yield ("Twice", name)
        for place, (tag, parts) in enumerate(tags):
            if tag in [t for other in kinds[:at] for t, inner in other[1]] + [t for t, inner in tags[:place]]:
                yield ("Twice", tag)
            for inner in map(core, parts):
                if inner[0] == "open":
                    yield ("NoName", "?")
                elif inner != "num" and inner[1] not in [other[0] for other in kinds[:at]]:
                    yield ("NoName", inner[1])
    opens, gaps = set(), set()
    for at, (name, params, term) in enumerate(defs):
        if name in [other[0] for other in defs[:at]]:
            yield ("Twice", name)
        for place, (x, kind) in enumerate(params):
            if x in [other[0] for other in params[:place]]:
                yield ("Twice", x)
            inner = core(kind)
            if inner[0] == "kind" and inner[1] not in dict(kinds):
                yield ("NoName", inner[1])
            if inner[0] == "open":
                if inner[1] in opens:
                    yield ("Twice", "?")
                opens.add(inner[1])
        yield from due_in(term, {x for x, kind in params}, kinds, {f: len(p) for f, p, body in defs[:at]}, gaps)


def due_in(term, names, kinds, calls, gaps):
    form = term[0]
    tags = {tag: len(parts) for k, own in kinds for tag, parts in own}
    inner = []
    if form == "name":
        if term[1] not in names:
            yield ("NoName", term[1])
    elif form in ("tag", "call"):
        counts = tags if form == "tag" else calls
        if term[1] not in counts:
            yield ("NoName", term[1])
        elif counts[term[1]] != len(term[2]):
            yield ("WrongCount", term[1])
        inner = [(part, names) for part in term[2]]
    elif form == "match":
        yield from due_of_arms(term[2], kinds, tags)
        inner = [(term[1], names)] + [(arm[2], names | set(arm[1])) for arm in term[2]]
    elif form == "let":
        inner = [(term[2], names), (term[3], names | {term[1]})]
    elif form == "fold":
        if term[2] == term[3]:
            yield ("Twice", term[2])
        inner = [(term[1], names), (term[4], names), (term[5], names | {term[2], term[3]})]
    elif form == "gap":
        if term[1] in gaps:
            yield ("Twice", "?")
        gaps.add(term[1])
    elif form == "row":
        inner = [(part, names) for part in term[1]]
    else:
        inner = [(part, names) for part in term[1:] if isinstance(part, tuple)]
    for part, known in inner:
        yield from due_in(part, known, kinds, calls, gaps)


def due_of_arms(arms, kinds, tags):
    if not arms:
        yield ("NoName", "match")
    for tag, names, inner in arms:
        if tag not in tags:
            yield ("NoName", tag)
    owners = {k for k, own in kinds for tag, parts in own if tag in [arm[0] for arm in arms]}
    whole = [sorted(tag for tag, parts in own) for k, own in kinds if k in owners]
    if arms and all(arm[0] in tags for arm in arms) and whole != [sorted(arm[0] for arm in arms)]:
        yield ("WrongCount", "match")
    for tag, names, inner in arms:
        if tag in tags and tags[tag] != len(names):
            yield ("WrongCount", tag)
        for at, x in enumerate(names):
            if x in names[:at]:
                yield ("Twice", x)


def letter_by_letter(sort, name):
    """Another name for each, one and the same for those alike."""
    return "".join("qwertyuiopasdfghjklzxcvbnm"[ord(sign) - 97] for sign in name)


class Refused(unittest.TestCase):
    def refused(self, program, sort, name):
        kept = repr(program)
        with self.assertRaises(sort, msg=program) as taken:
            look_names(program)
        self.assertIs(type(taken.exception), sort)
        self.assertEqual(taken.exception.name, name, program)
        self.assertEqual(repr(program), kept)

    def test_for_one_thing_alone(self):
        for text, sort, name in ALONE:
            self.refused(read_program(text), sort, name)
            self.assertEqual(len(set(all_due(read_program(text)))), 1, text)

    def test_an_open_kind_in_a_tag(self):
        for depth in range(3):
            part = rows_of(("open", 4), depth)
            for tags in ((("t", (part,)),), (("t", ()), ("u", ("num", part)))):
                self.refused(((("k", tags),), (("f", (), ("num", 1)),)), NoName, "?")
        # It is no open kind of a param that stands ahead; the tag's name comes ahead of it, another part behind.
        params = (("x", ("open", 4)),)
        self.refused(((("k", (("t", (("open", 4),)),)),), (("f", params, ("num", 1)),)), NoName, "?")
        self.refused(((("k", (("t", ()), ("t", (("open", 4),)))),), (("f", (), ("num", 1)),)), Twice, "t")
        self.refused(((("k", (("t", (("kind", "l"), ("open", 4))),)),), (("f", (), ("num", 1)),)), NoName, "l")
        self.refused(((("k", (("t", (("open", 4), ("kind", "l"))),)),), (("f", (), ("num", 1)),)), NoName, "?")

    def test_the_first_that_is_due(self):
        for text, sort, name in ORDERS:
            self.refused(read_program(text), sort, name)
            self.assertGreater(len(list(all_due(read_program(text)))), 1, text)

    def test_names_otherwise(self):
        for text, sort, name in ALONE + ORDERS:
            other = name if name in ("?", "match") else letter_by_letter("name", name)
            self.refused(renamed(read_program(text), letter_by_letter), sort, other)

    def test_two_rows_of_faults_together(self):
        # What stands in a def ahead is due ahead of what stands in one behind.
        for text, sort, name in OF_DEFS + OF_TERMS:
            if "kind" not in text:
                for late, far, other in OF_DEFS + OF_TERMS:
                    if "kind" not in late:
                        first = renamed(read_program(text), letter_by_letter)[1]
                        program = ((), first + read_program(late)[1])
                        wanted = name if name == "?" else letter_by_letter("name", name)
                        self.refused(program, sort, wanted)


class LetBy(unittest.TestCase):
    def test_by_hand(self):
        for text in (
            "def f = 1",
            "kind k (t) (u num (row num))\nkind l (v k) (w (row (row k)))\ndef f (x k) (y (row l)) = (t:)",
            "def f (x ?1) (y (row ?0)) = ?1\ndef g (z ?99) = (row ?0 ?99)",
            "kind k (t) (u num)\ndef f (x k) = (match x (u y y) (t 1))",
            "kind k (t num) (u num)\ndef f (x k) = (match x (t x x) (u x x))",
            "kind k (t num num)\ndef f (x k) = (match x (t y x (let x (+ x y) (fold (row x) y x x (- x y)))))",
            "def f = 1\ndef g = (call f)\ndef h = (+ (call g) (call f))",
            "def f (x num) (y num) = 1\ndef g (x num) = (call f (call f 1 2) x)",
            "def f = (let x 1 (let x (row x) x))",
            "def f = (fold (row) x y 1 (fold (row) y x 1 (+ x y)))",
        ):
            self.assertIs(look_names(read_program(text)), True)

    def test_kinds_are_not_looked_at(self):
        for text in ("def f = (+ 1 (row))", "def f = (let x 1 (first x))", "def f (x num) = 1\ndef g = (call f (row))",
                     "kind k (t)\ndef f = (match 1 (t 1))", "kind k (t num)\ndef f = (t: (t: (row)))"):
            self.assertIs(look_names(read_program(text)), True)

    def test_names_alike_of_different_sorts(self):
        text = "kind a (a num)\ndef a (a a) = (match a (a a (let a (a: a) (match a (a a a)))))"
        self.assertIs(look_names(read_program(text)), True)
        text = "kind a (b) (a)\nkind b (c a b)\ndef c (a a) (b b) = 1"
        self.assertEqual(outcome(look_names, read_program(text)), ("NoName", "b"))
        text = "kind a (b) (a)\nkind b (c a a)\ndef c (a a) (b b) = (c: (a:) (b:))\ndef b (c b) = (call c (a:) c)"
        self.assertIs(look_names(read_program(text)), True)
        # A gap of a term and an open kind of one number.
        self.assertIs(look_names(read_program("def f (x ?1) = ?1")), True)

    def test_many_gaps(self):
        params = [(tuple((x, ("open", 3 * at + k)) for k, x in enumerate("xyz"))) for at in range(20)]
        defs = [("f" + "abcdefghijklmnopqrst"[at], params[at], ("row", tuple(("gap", 20 * at + k) for k in range(20))))
                for at in range(20)]
        self.assertIs(look_names(((), tuple(defs))), True)
        again = defs[:19] + [("z", params[19], ("row", (("gap", 399), ("gap", 57))))]
        self.assertEqual(outcome(look_names, ((), tuple(again))), ("Twice", "?"))
        again = defs[:19] + [("z", (("x", ("open", 399)), ("y", ("open", 31))), ("num", 1))]
        self.assertEqual(outcome(look_names, ((), tuple(again))), ("Twice", "?"))

    def test_made_right(self):
        for program in right_programs(41, 400):
            self.assertIs(look_names(program), True)
            self.assertIs(look_names(program), True)


class BySeeds(unittest.TestCase):
    def test_one_or_two_names_otherwise(self):
        rand = seeded(42)
        sorts = {}
        for program in right_programs(43, 400):
            for k in range(10):
                chance = rand.choice((0.02, 0.1))
                pools = {"name": RIGHT_NAMES, "tag": ("t", "u", "v", "x"), "kind": ("k", "l", "x", "f"),
                         "def": ("f", "g", "x", "k")}

                def perhaps(sort, name):
                    return rand.choice(pools[sort]) if rand.random() < chance else name

                other = cut(rand, renamed(program, perhaps))
                wanted = look_slowly(other)
                self.assertEqual(outcome(look_names, other), wanted, other)
                word = wanted[0] + (" " + wanted[1] if wanted[1] in ("?", "match") else "")
                sorts[word] = sorts.get(word, 0) + 1
        self.assertGreater(min(sorts.values()), 5, sorts)
        self.assertEqual(len(sorts), 7, sorts)

    def test_programs_of_the_form(self):
        rand = seeded(44)
        for k in range(500):
            program = make_program(rand)
            self.assertEqual(outcome(look_names, program), look_slowly(program), program)


def cut(rand, program):
    """The program, perhaps with a tuple in it a thing less or with one twice, or a gap of another number."""
    def go(thing):
        if not isinstance(thing, tuple):
            return thing
        inner = tuple(go(each) for each in thing)
        if inner and inner[0] == "gap" and rand.random() < 0.2:
            return ("gap", 1)
        if inner and inner[0] == "open" and rand.random() < 0.2:
            return ("open", 1)
        if (not inner or isinstance(inner[0], tuple)) and rand.random() < 0.03:
            return inner[1:] if rand.randrange(2) else inner + inner[:1]
        return inner

    kinds, defs = program
    kinds = tuple((name, go(tags) or tags) for name, tags in kinds)
    return (kinds, tuple((name, go(params), go(term)) for name, params, term in defs))


if __name__ == "__main__":
    unittest.main()
