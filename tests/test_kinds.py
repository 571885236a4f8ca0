import unittest

from gapwork.errors import Clash
from gapwork.filled import filled
from gapwork.kinds import gap_kinds, is_of, last_kinds, look, open_kinds
from gapwork.programs import at_hand, gaps
from gapwork.reader import read_kind, read_program
from gapwork.terms import kind_deep
from gapwork.thingtexts import read_thing
from tests.helper import (RIGHT_NAMES, SlowKinds, exact_term, make_thing, outcome, renamed, right_programs, rows_of,
                          seeded, slow_all_kinds, slow_filled)

KINDS = "kind k (t num) (u)\nkind l (v k (row num))\n"

# A term, by the params x, y; what they and the term are.
RIGHT = [
    ("7", "'0 '1", "num"),
    ("x", "'0 '1", "'0"),
    ("(+ x y)", "num num", "num"),
    ("(< 1 (- x (* 2 (: y (= 3 4)))))", "num num", "num"),
    ("(row)", "'0 '1", "(row '2)"),
    ("(row x y)", "'0 '0", "(row '0)"),
    ("(row (row x) (row) y)", "'0 (row '0)", "(row (row '0))"),
    ("(more x y)", "'0 (row '0)", "(row '0)"),
    ("(first x)", "(row '0) '1", "'0"),
    ("(others x)", "(row '0) '1", "(row '0)"),
    ("(others (first x))", "(row (row '0)) '1", "(row '0)"),
    ("(long x)", "(row '0) '1", "num"),
    ("(t: x)", "num '0", "k"),
    ("(v: x y)", "k (row num)", "l"),
    ("(match x (t z z) (u y))", "k num", "num"),
    ("(match x (u y) (t z (row z)))", "k (row num)", "(row num)"),
    ("(match x (v z zz (row z)))", "l '0", "(row k)"),
    ("(match x (v z x (more y x)))", "l num", "(row num)"),
    ("(if x y (row))", "num (row '0)", "(row '0)"),
    ("(let z (row x) (more y z))", "'0 '0", "(row '0)"),
    ("(let x (row x) x)", "'0 '1", "(row '0)"),
    ("(fold x z w y (+ z w))", "(row num) num", "num"),
    ("(fold x z w y w)", "(row '0) '1", "'1"),
    ("(fold x z w (row) (more z w))", "(row '0) '1", "(row '0)"),
    ("(fold x y x y y)", "(row '0) '0", "'0"),
    ("?1", "'0 '1", "'2"),
    ("(let z ?1 (row z x))", "'0 '1", "(row '0)"),
    ("(+ ?1 (first ?2))", "'0 '1", "num"),
]

# Of each form, terms whose kinds can't be found.
CLASHES = [
    "(+ (row) 1)", "(+ 1 (row))", "(: (u:) 1)", "(= (row) (row))", "(first (+ 1 2))", "(< 1 (row 1))",
    "(let z (row) (* z z))",
    "(row 1 (row))", "(row (row 1) (row (row)))", "(row (u:) 1)", "(row 1 2 3 (t: 1))", "(+ (row) (row))",
    "(first (row 1 (row)))", "(more (row) (row 1))",
    "(more 1 2)", "(more 1 (row (row)))", "(more (u:) (row 1))", "(+ 1 (more 1 (row)))",
    "(first 1)", "(first (u:))", "(+ 1 (first (row (row))))", "(others 1)", "(others (t: 1))", "(+ 1 (others (row)))",
    "(more (row) (others (row 1)))", "(long 1)", "(long (u:))", "(first (long (row)))",
    "(t: (row))", "(t: (u:))", "(v: 1 (row))", "(v: (u:) 1)", "(v: (u:) (row (u:)))", "(+ (u:) 1)", "(first (u:))",
    "(match (u:) (v x y 1))", "(match 1 (t x 1) (u 1))", "(match (row) (v x y 1))",
    "(match (v: (u:) (row)) (t x 1) (u 1))",
    "(match (u:) (t x x) (u (row)))", "(match (u:) (t x (first x)) (u 1))", "(match ?1 (v a b (+ a 1)))",
    "(match ?1 (v a b (+ (first b) b)))", "(+ 1 (match (u:) (t x (row)) (u (row))))",
    "(if (row) 1 1)", "(if (u:) 1 1)", "(if 1 1 (row))", "(if 1 (u:) 1)", "(if 1 (row 1) (row (row)))",
    "(+ 1 (if 1 (row) (row)))", "(let z (row) (+ z 1))", "(let z 1 (first z))", "(first (let z 1 z))",
    "(let z ?1 (+ z (first z)))", "(let z (+ 1 (row)) 2)",
    "(fold 1 z w 1 1)", "(fold (u:) z w 1 1)", "(fold (row) z w 1 (row))", "(fold (row (row)) z w 1 z)",
    "(fold (row (row)) z w 1 (+ z 1))", "(fold (row) z w 1 (first w))", "(fold (row 1) z w (row) (more w w))",
    "(first (fold (row) z w 1 w))", "(fold (row) z w (row) (row w))", "(fold ?1 z w 1 (+ z (first z)))",
    "(let z ?1 (row z (row z)))", "(let z ?1 (more z z))", "(let z ?1 (row (first z) z))", "(fold ?1 z w x (more w z))",
    "(let z ?1 (if 1 z (row (row z))))", "(let z (row) (row z (row z)))",
    "(let z ?1 (let w (first z) (row w (row z))))",
    "(fold ?1 z w ?2 (let q (row w) (more z (row q (row z) w))))",
]

# Clashes of programs with several defs, or of params.
WHOLE_CLASHES = [
    "def f (x num) = (first x)",
    "def f (x (row num)) = (+ x 1)",
    "def f (x (row ?1)) = (+ x 1)",
    "def f (x (row (row ?1))) = (+ (first x) 1)",
    "def f (x ?1) = (row x (row x))",
    "def f (x ?1) (y (row ?2)) = (row (row x) y (row (row y)))",
    "kind k (t)\ndef f (x k) = (+ x 1)",
    "kind k (t)\nkind l (u)\ndef f (x k) (y l) = (row x y)",
    "kind k (t)\nkind l (u)\ndef f (x k) = (match x (u 1))",
    "def f (x num) = 1\ndef g = (call f (row))",
    "def f (x (row num)) = 1\ndef g = (call f 1)",
    "def f = 1\ndef g = (first (call f))",
    "def f = (row)\ndef g = (+ 1 (call f))",
    "def f (x num) (y (row num)) = 1\ndef g = (call f (row) 1)",
    # One kind each wherever it is called.
    "def f (x ?1) = x\ndef g = (row (call f 1) (first (call f (row 1))))",
    "def f (x ?1) = 1\ndef g = (+ (call f 1) (call f (row)))",
    "def f (x ?1) = 1\ndef g = (call f 1)\ndef h = (call f (row))",
    "def f (x ?1) = (row)\ndef g = (row (call f 1))\ndef h = (let z (more 1 (call f 1)) (more (row 1) (call f 1)))",
    "def f = (row)\ndef g = (more 1 (call f))\ndef h = (more (row) (call f))",
    "def f = ?1\ndef g = (+ 1 (call f))\ndef h = (first (call f))",
    "def f (x ?1) = x\ndef g (y ?2) = (call f (row y))\ndef h (z num) = (row (call g z) (row (row z)))",
    "def f (x ?1) = x\ndef g (x ?2) = (row x (call f (row x)))",
    "def f (x ?1) (y ?2) = (row x y)\ndef g (x ?3) = (call f x (row x))",
]


def read_body(text):
    """The program with the kinds above and one def of open params x and y."""
    return read_program(f"{KINDS}def f (x ?0) (y ?1) = {text}")


def kinds_of(text):
    return tuple(read_kind(word) for word in split_kinds(text)) if text else ()


def split_kinds(text):
    words, depth = [""], 0
    for sign in text:
        depth += (sign == "(") - (sign == ")")
        if sign == " " and not depth:
            words.append("")
        else:
            words[-1] += sign
    return words


class Look(unittest.TestCase):
    def clashes(self, program):
        kept = repr(program)
        for asked in (look, gap_kinds, open_kinds, last_kinds):
            with self.assertRaises(Clash, msg=program) as taken:
                asked(program)
            self.assertIs(type(taken.exception), Clash)
        self.assertEqual(repr(program), kept)

    def test_right_forms(self):
        for text, params, told in RIGHT:
            program = read_body(text)
            self.assertIs(look(program), True, text)
            self.assertEqual(last_kinds(program), (kinds_of(params), read_kind(told)), text)

    def test_clashes(self):
        for text in CLASHES:
            self.clashes(read_body(text))

    def test_clashes_of_whole_programs(self):
        for text in WHOLE_CLASHES:
            self.clashes(read_program(text))

    def test_each_def_has_one_kind(self):
        text = "def f (x ?1) = x\ndef g (y ?2) = (call f (row y))\ndef h (z num) = (row (call g z) (call f (row)))"
        program = read_program(text)
        self.assertIs(look(program), True)
        self.assertEqual(open_kinds(program), {1: ("row", "num"), 2: "num"})
        self.assertEqual(last_kinds(program), (("num",), ("row", ("row", "num"))))

    def test_names_ahead_of_clashes(self):
        for text, wanted in (
            ("def f = (+ (row) x)", ("NoName", "x")),
            ("def f = (+ 1 (row))\ndef f = 1", ("Twice", "f")),
            ("def f (x num) = (first x)\ndef g = (call f)", ("WrongCount", "f")),
            ("def f = (row 1 (row) ?1)\ndef g = ?1", ("Twice", "?")),
            ("kind k (t)\ndef f (x num) = (match x (t x 1))", ("WrongCount", "t")),
            ("def f = (+ 1 (row (match 1)))", ("NoName", "match")),
        ):
            for asked in (look, gap_kinds, open_kinds, last_kinds):
                self.assertEqual(outcome(asked, read_program(text)), wanted)

    def test_many_gaps_and_open_kinds(self):
        params = tuple((x, ("open", n)) for n, x in enumerate("abcdefghij"))
        row = ("row", tuple(("gap", n) for n in range(200)))
        program = ((), (("f", params, ("more", ("name", "j"), row)),))
        self.assertIs(look(program), True)
        names = tuple((x, ("any", n)) for n, x in enumerate("abcdefghij"))
        self.assertEqual(gap_kinds(program), {n: (names, ("any", 9)) for n in range(200)})
        self.assertEqual(open_kinds(program), {n: ("any", n) for n in range(10)})

    def test_made_right(self):
        for program in right_programs(51, 300):
            self.assertIs(look(program), True)


class GapKinds(unittest.TestCase):
    def told(self, text, of_gaps, of_opens=""):
        """Asks of a program's text what is told, as rows of a number, names with kinds, and a kind."""
        program = read_program(text)
        gaps_there = {}
        for row in of_gaps:
            n, names, *kinds = split_kinds(row)
            kinds = [read_kind(kind) for kind in kinds]
            gaps_there[int(n)] = (tuple(zip(names.strip("()").split(), kinds)), kinds[-1])
        opens = dict(zip(sorted(gaps(program)[1]), kinds_of(of_opens)))
        self.assertEqual(gap_kinds(program), gaps_there)
        self.assertEqual(open_kinds(program), opens)
        self.assertEqual(list(gap_kinds(program)), sorted(gaps_there))
        self.assertEqual(list(open_kinds(program)), sorted(opens))
        return program

    def test_none(self):
        self.told("def f (x num) = x", [])

    def test_names_at_hand(self):
        self.told("def f (x num) (y (row num)) = (let z (row y) ?5)", ["5 (x y z) num (row num) (row (row num)) '0"])
        self.told("def f (x num) (y (row num)) = (let x (row y) ?5)", ["5 (y x) (row num) (row (row num)) '0"])
        self.told("kind k (t num (row num)) (u)\ndef f (x k) = (match x (t y x (+ ?8 y)) (u ?3))",
                  ["3 (x) k num", "8 (y x) num (row num) num"])
        self.told("def f (a num) = (fold ?2 x y (row ?0) (more ?1 y))",
                  ["0 (a) num '0", "1 (a x y) num '1 (row '0) '0", "2 (a) num (row '1)"])
        self.told("def f (a num) (b num) = (fold (row a) b a (row) (others ?4))", ["4 (b a) num (row '0) (row '0)"])

    def test_kinds_by_the_place(self):
        self.told("def f = (+ ?1 (long ?0))", ["0 () (row '0)", "1 () num"])
        self.told("def f = (if ?9 (row ?4) (others (first ?11)))", ["4 () '0", "9 () num", "11 () (row (row '0))"])
        self.told("kind k (t (row num))\ndef f = (match ?1 (t x (row (t: ?0) ?2)))",
                  ["0 (x) (row num) (row num)", "1 () k", "2 (x) (row num) k"])
        self.told("def f (x num) = 1\ndef g = (call f ?1)\ndef h = (row ?2 (call g))", ["1 () num", "2 () num"])

    def test_letters_as_they_come_up(self):
        # By rising numbers, whatever the places; names ahead of a gap's own kind; open kinds behind.
        self.told("def f (x ?7) = (row x ?5)\ndef g (x ?2) (y ?3) = ?1",
                  ["1 (x y) '0 '1 '2", "5 (x) '3 '3"], "'0 '1 '3")
        self.told("def f (x ?0) (y ?1) = (row ?2 x)\ndef g (x ?2) = ?1",
                  ["1 (x) '0 '1", "2 (x y) '2 '3 '2"], "'2 '3 '0")
        self.told("def f (x ?4) (y (row ?3)) (z ?9) = (let y z 1)", [], "'0 '1 '2")
        self.told("def f (x ?4) (y (row ?3)) (z ?9) = (row x y)", [], "'0 (row '0) '1")

    def test_letters_in_common(self):
        self.told("def f = (row ?3 ?1)", ["1 () '0", "3 () '0"])
        self.told("def f = (more ?1 ?3)", ["1 () '0", "3 () (row '0)"])
        self.told("def f = (row ?3)\ndef g = (more ?1 (call f))", ["1 () '0", "3 () '0"])
        self.told("def f = (if ?1 ?2 (row ?3 ?4))\ndef g = ?5",
                  ["1 () num", "2 () (row '0)", "3 () '0", "4 () '0", "5 () '1"])
        self.told("def f (x ?1) = (row ?1 x)\ndef g (y ?2) = (call f (first y))",
                  ["1 (x) '0 '0"], "'0 (row '0)")

    def test_by_whatever_uses_a_def(self):
        self.told("def f (x ?1) = (row ?1 x)\ndef g = (call f 3)", ["1 (x) num num"], "num")
        self.told("def f = ?1\ndef g = (+ (call f) 1)", ["1 () num"])
        self.told("def f (x (row ?5)) = ?1\ndef g = (row (call f (row (row 1))) (row 2))",
                  ["1 (x) (row (row num)) (row num)"], "(row num)")

    def test_an_open_kind_within_rows(self):
        self.told("def f (x (row (row ?1))) = (first x)\ndef g = (call f (row (row (row 1))))", [], "(row num)")

    def test_a_gap_and_an_open_kind_of_one_number(self):
        self.told("def f (x ?1) = (first (row ?1 (row)))", ["1 (x) '0 (row '1)"], "'0")

    def test_dicts_are_the_askers_own(self):
        program = self.told("def f (x ?1) (y ?0) = (row ?3 ?2)", ["2 (x y) '0 '1 '2", "3 (x y) '0 '1 '2"], "'1 '0")
        kept = repr(program)
        first, second = gap_kinds(program), open_kinds(program)
        wanted = (dict(first), dict(second))
        first[2] = None
        del first[3]
        second.clear()
        self.assertEqual((gap_kinds(program), open_kinds(program)), wanted)
        self.assertEqual(repr(program), kept)

    def test_names_are_those_at_hand(self):
        for program in right_programs(52, 200):
            for n, (names, kind) in gap_kinds(program).items():
                self.assertEqual(tuple(x for x, known in names), at_hand(program, n))


class LastKinds(unittest.TestCase):
    def test_by_hand(self):
        for text, params, told in (
            ("def f = 1", "", "num"),
            ("def f (x num) = 1\ndef g (y ?1) (x ?0) = (row x)", "'0 '1", "(row '1)"),
            ("def f (x ?5) = ?1\ndef g (y (row ?1)) (x ?0) = (row y x)", "(row '0) (row '0)", "(row (row '0))"),
            ("def f = ?1", "", "'0"),
            ("def f (x ?5) = ?1\ndef g = (row ?0 (call f 1))", "", "(row '0)"),
            ("kind k (t)\ndef f (x ?3) = x\ndef g (y k) = (call f y)", "k", "k"),
        ):
            wanted = (kinds_of(params), read_kind(told))
            self.assertEqual(last_kinds(read_program(text)), wanted, text)
            self.assertIs(type(last_kinds(read_program(text))[0]), tuple)

    def test_letters_of_its_own(self):
        # Gaps' letters come from 0 on for themselves.
        program = read_program("def f (x ?1) = ?1\ndef g (x ?2) (y ?3) = (if ?4 y (row))")
        self.assertEqual(last_kinds(program), ((("any", 0), ("row", ("any", 1))), ("row", ("any", 1))))
        self.assertEqual(open_kinds(program), {1: ("any", 0), 2: ("any", 2), 3: ("row", ("any", 3))})


class Deep(unittest.TestCase):
    def test_kinds_of_130_rows(self):
        for depth in (6, 60, 130):
            term = ("gap", 1)
            for k in range(depth):
                term = ("first", term)
            program = ((), (("f", (), term), ("g", (("x", ("open", 0)),), ("more", ("call", "f", ()), ("name", "x")))))
            self.assertIs(look(program), True)
            self.assertEqual(gap_kinds(program), {1: ((), rows_of(("any", 0), depth))})
            self.assertEqual(open_kinds(program), {0: ("row", ("any", 0))})
            told = ("num", 1)
            for k in range(depth):
                told = ("row", (told,))
            self.assertEqual(last_kinds(((), (("f", (), told),))), ((), rows_of("num", depth)))

    def test_within_the_bounds(self):
        # Twelve rows by each of three defs, round a param's six.
        defs = []
        for at, f in enumerate("fgh"):
            term = ("call", "fgh"[at - 1], (("name", "x"),)) if at else ("name", "x")
            for k in range(7):
                term = ("row", (term,))
            lets = [("let", "y", ("row", (("name", "y"),))), ("let", "y", ("row", (("row", (("name", "x"),)),)))]
            defs.append((f, (("x", ("open", at)),), lets[1] + (lets[0] + (term,),)))
        program = ((), tuple(defs))
        self.assertEqual(last_kinds(program)[1], rows_of(("any", 0), 21))

    def test_deeper_than_python_goes(self):
        term = ("gap", 1)
        for k in range(3000):
            term = ("first", term)
        program = ((), (("f", (), term),))
        self.assertIs(look(program), True)
        self.assertEqual(kind_deep(gap_kinds(program)[1][1]), 3000)
        term = ("name", "x")
        for k in range(3000):
            term = ("row", (term,))
        program = ((), (("f", (("x", ("open", 3)),), ("let", "x", term, ("row", (("name", "x"), ("name", "x"))))),))
        self.assertEqual(kind_deep(last_kinds(program)[1]), 3001)
        inner = ("if", ("num", 1), ("name", "x"), term)
        self.assertEqual(outcome(look, ((), (("f", (("x", ("open", 3)),), inner),))), ("Clash",))


class IsOf(unittest.TestCase):
    program = read_program("kind k (t num) (u)\nkind l (v k (row num)) (w k)\ndef f = 1")

    def test_by_hand(self):
        for thing, kind, wanted in (
            ("0", "num", True), ("999999", "num", True), ("[]", "num", False), ("(u)", "num", False),
            ("[]", "(row num)", True), ("[1 2]", "(row num)", True), ("1", "(row num)", False),
            ("[]", "(row k)", True), ("[]", "(row (row (row l)))", True), ("[[]]", "(row num)", False),
            ("[1 [] 3]", "(row num)", False), ("[1 3 (u)]", "(row num)", False),
            ("[[1] [] [2 3]]", "(row (row num))", True),
            ("[[1] [] [2 (u)]]", "(row (row num))", False), ("[[1] 2]", "(row (row num))", False),
            ("(u)", "k", True), ("(t 1)", "k", True), ("(t)", "k", False), ("(u 1)", "k", False),
            ("(t 1 2)", "k", False), ("(t [])", "k", False), ("(w (u))", "k", False), ("(zz)", "k", False),
            ("1", "k", False), ("[]", "k", False),
            ("(v (t 1) [2 3])", "l", True), ("(w (t 1))", "l", True), ("(v (u) [])", "l", True), ("(u)", "l", False),
            ("(v (v (u) []) [])", "l", False), ("(v (u) 1)", "l", False), ("(v (u) [(u)])", "l", False),
            ("(v [] (u))", "l", False), ("(v (u))", "l", False), ("(v (t (u)) [])", "l", False),
            ("[(u) (t 3)]", "(row k)", True), ("[(u) (w (u))]", "(row k)", False), ("(u)", "(row k)", False),
            ("(f 1)", "k", False), ("(k)", "k", False), ("(l)", "l", False),
        ):
            told = is_of(self.program, read_thing(thing), read_kind(kind))
            self.assertIs(told, wanted, (thing, kind))

    def test_by_seeds(self):
        rand = seeded(53)

        def slow(thing, kind):
            tags = {"t": ("k", ["num"]), "u": ("k", []), "v": ("l", [("kind", "k"), ("row", "num")]),
                    "w": ("l", [("kind", "k")])}
            if thing[0] == "num":
                return kind == "num"
            if thing[0] == "row":
                return kind[0] == "row" and all(slow(inner, kind[1]) for inner in thing[1])
            name, parts = tags[thing[1]]
            return (kind == ("kind", name) and len(parts) == len(thing[2])
                    and all(slow(inner, part) for inner, part in zip(thing[2], parts)))

        seen = {True: 0, False: 0}
        for k in range(3000):
            thing = rand.choice(THINGS) if k % 2 else tags_otherwise(rand, make_thing(rand, rand.randint(1, 6)))
            for kind in ("num", ("kind", "k"), ("kind", "l"), ("row", "num"), ("row", ("row", "num")),
                         ("row", ("kind", "k"))):
                self.assertIs(is_of(self.program, thing, kind), slow(thing, kind), (thing, kind))
                seen[slow(thing, kind)] += 1
        self.assertGreater(min(seen.values()), 500)

    def test_deep(self):
        thing = ("num", 1)
        for k in range(130):
            thing = ("row", (thing,))
        self.assertIs(is_of(self.program, thing, rows_of("num", 130)), True)
        self.assertIs(is_of(self.program, thing, rows_of("num", 129)), False)
        self.assertIs(is_of(self.program, thing, rows_of("num", 131)), False)


THINGS = [read_thing(text) for text in ("(v (t 1) [])", "(v (u) [1 2])", "[(t 1) (u)]", "[(t 1) 2]", "[[1] []]", "3",
                                        "(w (u))", "(t 1)", "[1 2 3]", "(v (t 1) [(u)])")]


def tags_otherwise(rand, thing):
    """The thing with this program's tags in the place of others, and numbers in the place of lefts."""
    if thing[0] == "left":
        return ("num", thing[1])
    if thing[0] == "row":
        return ("row", tuple(tags_otherwise(rand, inner) for inner in thing[1]))
    if thing[0] == "tag":
        return ("tag", rand.choice("tuvw"), tuple(tags_otherwise(rand, inner) for inner in thing[2]))
    return thing


class BySeeds(unittest.TestCase):
    def same(self, program):
        wanted = slow_all_kinds(program)
        if wanted is None:
            self.assertEqual(outcome(look, program), ("Clash",), program)
            return False
        self.assertEqual(outcome(look, program), ("told", True), program)
        self.assertEqual((gap_kinds(program), open_kinds(program), last_kinds(program)), wanted, program)
        return True

    def test_made_right(self):
        for program in right_programs(54, 500, gap=0.15):
            self.assertTrue(self.same(program))
        for program in right_programs(55, 300, gap=0.03):
            self.assertTrue(self.same(program))

    def test_otherwise(self):
        rand = seeded(56)
        seen = {True: 0, False: 0}
        for program in right_programs(57, 600, gap=0.1):
            for k in range(4):
                other = renamed(program, lambda sort, x: swapped(rand, x) if sort == "name" else x)
                other = (other[0], tuple((f, params, forms_otherwise(rand, term)) for f, params, term in other[1]))
                if outcome(look, other)[0] in ("told", "Clash"):
                    seen[self.same(other)] += 1
        self.assertGreater(min(seen.values()), 200, seen)


def swapped(rand, x):
    return rand.choice(RIGHT_NAMES) if rand.random() < 0.1 else x


def forms_otherwise(rand, here):
    """The term with one form in the place of another, here and there."""
    if not isinstance(here, tuple):
        return here
    here = tuple(forms_otherwise(rand, inner) for inner in here)
    if here and rand.random() < 0.05:
        if here[0] in ("first", "others", "long"):
            return (rand.choice(("first", "others", "long")), here[1])
        if here[0] in ("num", "row", "name"):
            return rand.choice((("num", 3), ("row", ()), ("row", (here,))))
        if here[0] in ("if", "op", "more"):
            return ("if", ("num", 1)) + here[-2:]
    return here


def put_for(kind, puts):
    """A told kind with kinds put for its letters."""
    if kind[0] == "row":
        return ("row", put_for(kind[1], puts))
    return puts[kind[1]] if kind[0] == "any" else kind


def fits(told, wanted):
    """Whether one putting for letters makes told kinds into the wanted ones."""
    kinds = SlowKinds()
    kinds.many = 1000
    return all([kinds.join(kind, other) for kind, other in zip(told, wanted)])


class Least(unittest.TestCase):
    def let_by(self, program, terms, kinds):
        whole = filled(program, tuple(terms.items()), tuple(kinds.items()))
        self.assertEqual(whole, slow_filled(program, terms, kinds))
        return outcome(look, whole) == ("told", True)

    def test_fillings_of_the_told_kinds_and_of_others(self):
        rand = seeded(58)
        seen = {True: 0, False: 0}
        for program in right_programs(59, 400, gap=0.12):
            universe = [rows_of(core, depth) for depth in range(3)
                        for core in ["num"] + [("kind", k) for k, tags in program[0]]]
            of_gaps = {n: kind for n, (names, kind) in gap_kinds(program).items()}
            of_opens = open_kinds(program)
            told = list(of_gaps.values()) + list(of_opens.values())
            for k in range(3):
                puts = {letter: rand.choice(universe) for letter in range(200)}
                wanted = [put_for(kind, puts) for kind in told]
                if k and wanted:
                    wanted[rand.randrange(len(wanted))] = rand.choice(universe)
                terms = {n: exact_term(program, kind) for n, kind in zip(of_gaps, wanted)}
                kinds = dict(zip(of_opens, wanted[len(of_gaps):]))
                right = fits(told, wanted)
                self.assertEqual(self.let_by(program, terms, kinds), right, (program, terms, kinds))
                self.assertTrue(right or k)
                seen[right] += 1
        self.assertGreater(min(seen.values()), 200, seen)

    def test_names_put_at_gaps(self):
        rand = seeded(60)
        seen = {True: 0, False: 0}
        for program in right_programs(61, 400, gap=0.2):
            of_gaps = gap_kinds(program)
            chosen = {n: rand.choice(names) for n, (names, kind) in of_gaps.items() if names}
            if chosen:
                right = fits([of_gaps[n][1] for n in chosen], [kind for x, kind in chosen.values()])
                terms = {n: ("name", x) for n, (x, kind) in chosen.items()}
                self.assertEqual(self.let_by(program, terms, {}), right, (program, terms))
                seen[right] += 1
        self.assertGreater(min(seen.values()), 50, seen)


if __name__ == "__main__":
    unittest.main()
