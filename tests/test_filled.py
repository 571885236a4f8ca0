import unittest

from gapwork.errors import NoGap, Twice
from gapwork.filled import filled
from gapwork.kinds import look
from gapwork.programs import gaps
from gapwork.reader import read_kind, read_program, read_term
from gapwork.writer import program_text
from tests.helper import fillings, make_kind, make_program, make_term, outcome, rows_of, seeded, slow_filled

PROGRAM = """kind k (t num)
def f (x ?1) (y (row (row ?2))) = (+ ?1 (let z ?2 (if z ?3 (row ?4))))
def g (x num) (y ?3) = (match ?5 (t x (fold ?6 y z ?7 (call f ?8 ?9))))"""


def ask(program, terms, kinds=""):
    return outcome(filled, read_program(program), fillings(terms, read_term), fillings(kinds, read_kind))


def in_halves(text, in_params, in_terms, put):
    """A program's text with a text put for another one, in the params or in the terms of all defs."""
    rows = []
    for row in text.split("\n"):
        head, mark, term = row.partition(" = ")
        head = head.replace(in_params, put) if in_params else head
        rows.append(head + mark + (term.replace(in_terms, put) if in_terms else term))
    return "\n".join(rows)


class Filled(unittest.TestCase):
    def tell(self, program, terms, kinds, wanted):
        self.assertEqual(ask(program, terms, kinds), ("told", read_program(wanted)))

    def test_nothing(self):
        self.tell(PROGRAM, "", "", PROGRAM)

    def test_one_by_one(self):
        for n in range(1, 10):
            for put in ("7", "(let q 1 q)", "(row ?44 (row ?45))", f"?{n}", f"(row 1 ?{n})"):
                self.tell(PROGRAM, f"{n} {put}", "", in_halves(PROGRAM, "", f"?{n}", put))

    def test_one_open_kind_by_another(self):
        for n in (1, 2, 3):
            for put in ("num", "k", "(row num)", "?7", f"(row ?{n})", "(row (row ?0))"):
                self.tell(PROGRAM, "", f"{n} {put}", in_halves(PROGRAM, f"?{n}", "", put))

    def test_several_at_once(self):
        self.tell("def f (x ?1) (y (row ?2)) = (row ?1 (row ?2) ?3)", "3 (row x); 1 (row ?9 ?1)", "2 (row num); 1 ?2",
                  "def f (x ?2) (y (row (row num))) = (row (row ?9 ?1) (row ?2) (row x))")
        self.tell(PROGRAM, "9 9; 8 8; 7 7; 6 (row); 5 (t: 1); 4 4; 3 (row); 2 2; 1 1", "3 num; 2 k; 1 (row num)",
                  """kind k (t num)
def f (x (row num)) (y (row (row k))) = (+ 1 (let z 2 (if z (row) (row 4))))
def g (x num) (y num) = (match (t: 1) (t x (fold (row) y z 7 (call f 8 9))))""")

    def test_what_is_put_is_not_gone_into(self):
        self.tell("def f = (row ?1 ?2)", "1 ?2; 2 ?1", "", "def f = (row ?2 ?1)")
        self.tell("def f = (row ?1 ?2 ?3)", "1 (row ?2 ?3); 2 ?1; 3 5", "", "def f = (row (row ?2 ?3) ?1 5)")
        self.tell("def f (x ?1) (y ?2) = 1", "", "1 (row ?2); 2 ?1", "def f (x (row ?2)) (y ?1) = 1")

    def test_gaps_of_terms_and_of_kinds_do_not_hinder_one_another(self):
        self.tell("def f (x ?1) = (row ?1 ?2)", "1 ?5", "1 ?2", "def f (x ?2) = (row ?5 ?2)")
        self.tell("def f (x ?1) = (row ?1 ?2)", "", "1 (row ?2)", "def f (x (row ?2)) = (row ?1 ?2)")
        self.tell("def f (x ?1) (y ?2) = ?3", "3 (row ?1 ?2)", "", "def f (x ?1) (y ?2) = (row ?1 ?2)")
        self.tell("def f (x ?1) (y ?2) = ?1", "1 ?1", "1 ?1; 2 ?2", "def f (x ?1) (y ?2) = ?1")

    def test_it_may_not_be_let_by(self):
        self.tell("def f = (+ ?1 ?2)", "2 (row nobody (no: 3))", "", "def f = (+ ?1 (row nobody (no: 3)))")
        self.tell("def f (x ?1) = 1", "", "1 no", "def f (x no) = 1")
        self.assertEqual(outcome(look, filled(read_program("def f = ?1"), ((1, ("name", "q")),), ())), ("NoName", "q"))

    def test_nothing_handed_in_is_changed(self):
        program, terms, kinds = read_program(PROGRAM), ((1, ("num", 5)), (2, ("gap", 2))), ((1, ("open", 9)),)
        kept = repr((program, terms, kinds))
        self.assertEqual(filled(program, terms, kinds), filled(program, terms, kinds))
        self.assertEqual(repr((program, terms, kinds)), kept)


class Refused(unittest.TestCase):
    def refused(self, program, terms, kinds, *wanted):
        self.assertEqual(ask(program, terms, kinds), wanted)

    def test_a_gap_that_is_not_there(self):
        self.refused("def f = ?1", "2 1", "", "NoGap", 2)
        self.refused("def f = ?1", "1 1; 0 1; 9 1", "", "NoGap", 0)
        self.refused("def f (x ?1) = ?2", "1 1", "", "NoGap", 1)
        self.refused("def f (x ?1) = ?2", "", "2 num", "NoGap", 2)
        self.refused("def f (x ?1) = 1", "", "1 num; 9 num; 8 num", "NoGap", 9)
        with self.assertRaises(NoGap) as taken:
            filled(read_program("def f = 1"), ((99, ("num", 1)),), ())
        self.assertEqual(taken.exception.number, 99)

    def test_filled_twice(self):
        self.refused("def f = (row ?1 ?2)", "1 1; 2 2; 1 1", "", "Twice", 1)
        self.refused("def f = (row ?1 ?2)", "2 1; 1 2; 1 1; 2 1", "", "Twice", 1)
        self.refused("def f (x ?0) (y ?1) = 1", "", "0 num; 1 num; 0 num", "Twice", 0)
        with self.assertRaises(Twice) as taken:
            filled(read_program("def f = ?0"), ((0, ("num", 1)), (0, ("num", 1))), ())
        self.assertEqual(taken.exception.name, 0)

    def test_a_gap_that_the_program_has(self):
        self.refused("def f = (row ?1 ?2)", "1 (row 1 (row ?2))", "", "Twice", 2)
        self.refused("def f = (row ?1 ?2 ?3)", "1 (row ?1 ?9 ?3 ?2)", "", "Twice", 3)
        self.refused("def f = ?1\ndef g = ?2", "2 ?1", "", "Twice", 1)
        self.refused("def f (x ?1) (y (row ?2)) = 1", "", "1 (row ?2)", "Twice", 2)

    def test_a_gap_that_stood_ahead_in_what_is_put(self):
        self.refused("def f = ?1", "1 (row ?5 ?5)", "", "Twice", 5)
        self.refused("def f = ?1", "1 (row ?1 ?1)", "", "Twice", 1)
        self.refused("def f = (row ?1 ?2)", "1 (row ?1 ?2); 2 (row ?7 ?1)", "", "Twice", 1)
        self.refused("def f = (row ?1 ?2)", "2 (row ?7 ?1); 1 (row ?8 ?1 ?7)", "", "Twice", 1)
        self.refused("def f (x ?1) (y ?2) = 1", "", "1 ?5; 2 (row ?5)", "Twice", 5)

    def test_the_order(self):
        # Of kinds: gaps that aren't there, then filled twice, then gaps in what is put; all ahead of terms'.
        both = "def f (x ?1) (y ?2) = (row ?1 ?2)"
        self.refused(both, "9 1", "1 ?2; 1 num; 8 num", "NoGap", 8)
        self.refused(both, "9 1", "1 ?5; 2 ?5; 1 num", "Twice", 1)
        self.refused(both, "9 1; 1 1; 1 1", "1 ?2", "Twice", 2)
        self.refused(both, "1 1; 1 1; 9 1", "1 ?1", "NoGap", 9)
        self.refused(both, "1 ?2; 1 1", "", "Twice", 1)
        self.refused(both, "1 ?2; 9 1", "", "NoGap", 9)
        self.refused(both, "1 (row ?7 ?2 ?7)", "", "Twice", 2)
        self.refused(both, "1 (row ?7 ?7 ?2)", "", "Twice", 7)

    def test_nothing_is_changed(self):
        program, terms = read_program("def f = (row ?1 ?2)"), ((1, ("gap", 2)),)
        kept = repr((program, terms))
        for again in range(2):
            self.assertEqual(outcome(filled, program, terms, ()), ("Twice", 2))
        self.assertEqual(repr((program, terms)), kept)


def slow_refusal(there, pairs, inside):
    """What refuses fillings of one sort; None where nothing does."""
    for n, put in pairs:
        if n not in there:
            return ("NoGap", n)
    for k, (n, put) in enumerate(pairs):
        if n in dict(pairs[:k]):
            return ("Twice", n)
    rest = set(there) - set(dict(pairs))
    for n, put in pairs:
        for gap in inside(put):
            if gap in rest:
                return ("Twice", gap)
            rest.add(gap)
    return None


def numbers_in(thing, word):
    if isinstance(thing, tuple):
        if thing and thing[0] == word:
            return [thing[1]]
        return [n for inner in thing for n in numbers_in(inner, word)]
    return []


class BySeeds(unittest.TestCase):
    def test_programs_of_the_form(self):
        rand = seeded(71)
        seen = {}
        for k in range(3000):
            program = make_program(rand, 8)
            of_terms, of_kinds = gaps(program)
            some = [n for n in of_terms if rand.random() < 0.6] + rand.sample(range(100), rand.random() < 0.1)
            terms = tuple((n, make_term(rand, rand.randint(1, 4), gaps=rand.choice(((0, 99), (n, n))))) for n in some)
            some = [n for n in of_kinds if rand.random() < 0.6] + rand.sample(range(100), rand.random() < 0.1)
            kinds = tuple((n, make_kind(rand, 2, ("num", ("open", n), ("open", 7)))) for n in some)
            wanted = (slow_refusal(of_kinds, kinds, lambda kind: numbers_in(kind, "open"))
                      or slow_refusal(of_terms, terms, lambda term: numbers_in(term, "gap"))
                      or ("told", slow_filled(program, dict(terms), dict(kinds))))
            self.assertEqual(outcome(filled, program, terms, kinds), wanted, (program, terms, kinds))
            seen[wanted[0]] = seen.get(wanted[0], 0) + 1
        self.assertGreater(min(seen.values()), 100, seen)
        self.assertEqual(len(seen), 3)

    def test_deeper_than_python_goes(self):
        term = ("gap", 1)
        for k in range(3000):
            term = ("let", "x", ("num", 1), ("row", (term,)))
        program = ((), (("f", (("x", rows_of(("open", 1), 3000)),), term),))
        told = filled(program, ((1, ("num", 5)),), ((1, "num"),))
        self.assertEqual(gaps(told), ([], []))
        self.assertEqual(program_text(told), program_text(program).replace("?1", "num", 1).replace("?1", "5"))


if __name__ == "__main__":
    unittest.main()
