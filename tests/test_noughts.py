import unittest

from gapwork.errors import NoGap
from gapwork.filled import filled
from gapwork.kinds import gap_kinds, look, open_kinds
from gapwork.noughts import breaker, can_put, noughts
from gapwork.programs import gaps
from gapwork.reader import read_program, read_term
from gapwork.terms import parts
from tests.helper import exact_term, outcome, right_programs, rows_of, seeded, slow_filled

KINDS = "kind k (t num) (u)\nkind l (v k (row k)) (w)\nkind m (s l k)\n"


class CanPut(unittest.TestCase):
    def test_by_hand(self):
        program = read_program(KINDS + "def e (x num) = x\ndef f (a num) (r (row num)) (q ?1) = "
                                       "(let z (row ?1 a) (fold r x y ?2 (+ (first ?3) (match ?4 (t c ?5) (u 1)))))")
        for n, text, wanted in (
            (1, "a", True), (1, "7", True), (1, "(call e a)", True), (1, "z", False), (1, "r", False),
            (1, "(first r)", True), (1, "(row)", False), (1, "q", True), (1, "x", False), (1, "(call f 1 r q)", False),
            (1, "(call e r)", False), (1, "(call e)", False), (1, "(call g)", False), (1, "(let b 1 b)", True),
            (2, "(first z)", True), (2, "z", False), (2, "x", False), (2, "(u:)", False),
            (3, "(row x y)", True), (3, "z", True), (3, "r", True), (3, "x", False), (3, "(row (row))", False),
            (4, "(t: x)", True), (4, "(t: z)", False), (4, "(v: (u:) (row))", False), (4, "(t:)", False),
            (4, "(first (row))", True), (4, "c", False), (5, "c", True), (5, "(+ c (first z))", True),
            (5, "(match (u:) (t c c) (u y))", True), (5, "(match (u:) (t c c))", False),
            # Its own gap again, further ones, and such as the program has.
            (1, "?1", True), (1, "?9", True), (1, "(+ ?1 ?9)", True), (1, "(+ ?9 ?9)", False), (1, "(+ ?1 ?1)", False),
            (1, "?2", False), (1, "(+ ?9 (row ?8))", False),
            # Gaps that aren't there.
            (0, "1", False), (6, "1", False), (99, "?99", False),
        ):
            told = can_put(program, n, read_term(text))
            self.assertIs(told, wanted, (n, text))

    def test_letters(self):
        program = read_program("def f (x ?0) (y ?1) = (row ?1 x)\ndef g = ?2")
        for n, text, wanted in ((1, "x", True), (1, "y", True), (1, "7", True), (1, "(row x)", False),
                                (1, "(row y)", True), (2, "(row 1)", True), (2, "(call f 1 1)", True), (2, "x", False)):
            self.assertIs(can_put(program, n, read_term(text)), wanted, (n, text))

    def test_as_the_filled_program_is_looked_at(self):
        rand = seeded(81)
        seen = {True: 0, False: 0}
        for program in right_programs(82, 300, gap=0.15):
            for n, (names, kind) in gap_kinds(program).items():
                universe = ["num", ("row", "num"), ("row", ("row", "num"))] + [("kind", k) for k, tags in program[0]]
                terms = [("name", x) for x, known in names] + [exact_term(program, known) for known in universe]
                for term in terms + [("gap", rand.randrange(100)), ("row", (("gap", n),))]:
                    wanted = outcome(look, slow_filled(program, {n: term}, {})) == ("told", True)
                    if term[0] == "gap":
                        wanted = term[1] == n or term[1] not in gaps(program)[0]
                    self.assertIs(can_put(program, n, term), wanted, (program, n, term))
                    seen[wanted] += 1
        self.assertGreater(min(seen.values()), 300, seen)

    def test_nothing_is_changed(self):
        program = read_program("def f = (+ ?1 ?2)")
        kept = repr(program)
        for again in range(2):
            self.assertIs(can_put(program, 1, ("gap", 2)), False)
            self.assertIs(can_put(program, 1, ("gap", 3)), True)
        self.assertEqual(repr(program), kept)


class Noughts(unittest.TestCase):
    def told(self, text, terms, kinds=()):
        wanted = tuple((n, read_term(term)) for n, term in terms)
        self.assertEqual(noughts(read_program(text)), (wanted, tuple(kinds)))

    def test_by_hand(self):
        self.told("def f = 1", [])
        self.told("def f = (+ ?7 (long ?3))", [(3, "(row)"), (7, "0")])
        self.told("def f = (row ?1 ?0)", [(0, "0"), (1, "0")])
        self.told("def f = (first (first ?5))", [(5, "(row)")])
        self.told(KINDS + "def f = (match ?2 (t x (row ?9)) (u (row (s: ?1 ?4))))",
                  [(1, "(v: (t: 0) (row))"), (2, "(t: 0)"), (4, "(t: 0)"), (9, "(s: (v: (t: 0) (row)) (t: 0))")])
        self.told("def f (x ?8) (y (row ?2)) (z ?5) = (row (first x) (+ z ?1))", [(1, "0")],
                  [(2, "num"), (5, "num"), (8, ("row", "num"))])
        self.told(KINDS + "def f (x ?4) (y (row ?3)) = (row x (s: (w:) (first y)))", [],
                  [(3, ("kind", "k")), (4, ("kind", "m"))])

    def test_a_letter_within_rows(self):
        self.told("def f (x ?0) = (more (row ?1) (row x))", [(1, "0")], [(0, ("row", "num"))])
        self.told("def f (x ?0) (y ?1) = (if (long x) x (row (row y)))", [],
                  [(0, rows_of("num", 2)), (1, "num")])

    def test_they_let_the_program_by(self):
        for program in right_programs(83, 500, gap=0.15):
            terms, kinds = noughts(program)
            self.assertEqual([n for n, term in terms], sorted(gaps(program)[0]))
            self.assertEqual([n for n, kind in kinds], sorted(gaps(program)[1]))
            whole = filled(program, terms, kinds)
            self.assertIs(look(whole), True)
            self.assertEqual(gaps(whole), ([], []))
            self.assertEqual(noughts(whole), ((), ()))
            of_gaps = gap_kinds(program)
            for n, term in terms:
                self.assertIs(can_put(program, n, term), True)
                self.assertEqual(term, slow_nought(program, of_gaps[n][1]))
            for n, kind in kinds:
                told = open_kinds(program)[n]
                self.assertEqual(kind, put_num(told))


def put_num(kind):
    if kind[0] == "row":
        return ("row", put_num(kind[1]))
    return "num" if kind[0] == "any" else kind


def slow_nought(program, kind):
    if kind[0] == "row":
        return ("row", ())
    if kind[0] == "kind":
        tag, inner = dict(program[0])[kind[1]][0]
        return ("tag", tag, tuple(slow_nought(program, part) for part in inner))
    return ("num", 0)


class Breaker(unittest.TestCase):
    def test_none_just_of_a_letter(self):
        program = read_program(KINDS + "def f (x ?0) = (row (+ ?0 1) (long (row ?1 x)) (first ?2) (match ?3 (w 1) "
                                       "(v a b (long ?4))))\ndef g = ?5")
        for n, there in ((0, True), (1, False), (2, True), (3, True), (4, True), (5, False)):
            self.assertEqual(breaker(program, n) is not None, there, n)

    def test_it_cannot_be_put_and_has_a_kind(self):
        seen = {True: 0, False: 0}
        for program in right_programs(84, 400, gap=0.15):
            for n, (names, kind) in gap_kinds(program).items():
                term = breaker(program, n)
                seen[term is None] += 1
                self.assertEqual(term is None, kind[0] == "any")
                if term is not None:
                    self.assertFalse({part[0] for part in parts(term)} & {"name", "call", "gap"})
                    self.assertIs(look((program[0], (("f", (), term),))), True)
                    self.assertIs(can_put(program, n, term), False)
                else:
                    for other in ["num", ("row", "num")] + [("kind", k) for k, tags in program[0]]:
                        self.assertIs(can_put(program, n, exact_term(program, other)), True)
        self.assertGreater(min(seen.values()), 50, seen)

    def test_a_gap_that_is_not_there(self):
        with self.assertRaises(NoGap) as taken:
            breaker(read_program("def f (x ?2) = ?1"), 2)
        self.assertEqual(taken.exception.number, 2)


if __name__ == "__main__":
    unittest.main()
