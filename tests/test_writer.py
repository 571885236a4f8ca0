import unittest

from gapwork.reader import read_kind, read_program, read_term
from gapwork.writer import kind_text, program_text, term_text
from tests.helper import (CORES, FORMS, make_program, make_term, make_terms, rows_of, seeded, slow_kind_text,
                          slow_parts, slow_program_text, slow_term_text)

ONE, TWO, THREE = ("num", 1), ("name", "x"), ("gap", 3)
KINDS = (
    ("num", "num"),
    (("kind", "a"), "a"),
    (("kind", "abcdef"), "abcdef"),
    (("open", 0), "?0"),
    (("open", 99), "?99"),
    (("any", 0), "'0"),
    (("any", 99), "'99"),
    (("row", "num"), "(row num)"),
    (("row", ("row", ("open", 5))), "(row (row ?5))"),
    (("row", ("any", 10)), "(row '10)"),
    (("row", ("kind", "k")), "(row k)"),
)
TERMS = (
    (("num", 0), "0"),
    (("num", 999999), "999999"),
    (("num", 100), "100"),
    (("name", "x"), "x"),
    (("name", "op"), "op"),
    (("gap", 0), "?0"),
    (("gap", 99), "?99"),
    (("op", "+", ONE, TWO), "(+ 1 x)"),
    (("op", "-", ONE, TWO), "(- 1 x)"),
    (("op", "*", ONE, TWO), "(* 1 x)"),
    (("op", ":", ONE, TWO), "(: 1 x)"),
    (("op", "<", ONE, TWO), "(< 1 x)"),
    (("op", "=", ONE, TWO), "(= 1 x)"),
    (("row", ()), "(row)"),
    (("row", (ONE,)), "(row 1)"),
    (("row", (ONE, TWO, THREE)), "(row 1 x ?3)"),
    (("more", ONE, TWO), "(more 1 x)"),
    (("first", TWO), "(first x)"),
    (("others", TWO), "(others x)"),
    (("long", TWO), "(long x)"),
    (("tag", "t", ()), "(t:)"),
    (("tag", "t", (ONE, THREE)), "(t: 1 ?3)"),
    (("match", TWO, ()), "(match x)"),
    (("match", TWO, (("t", (), ONE),)), "(match x (t 1))"),
    (("match", TWO, (("t", ("a",), ("name", "a")), ("u", ("a", "b"), THREE))), "(match x (t a a) (u a b ?3))"),
    (("match", TWO, (("op", ("x", "x"), ("op", "=", ONE, TWO)),)), "(match x (op x x (= 1 x)))"),
    (("if", ONE, TWO, THREE), "(if 1 x ?3)"),
    (("let", "y", ONE, TWO), "(let y 1 x)"),
    (("fold", TWO, "a", "b", ONE, THREE), "(fold x a b 1 ?3)"),
    (("call", "f", ()), "(call f)"),
    (("call", "f", (ONE, TWO)), "(call f 1 x)"),
    (("more", ("first", ("row", (("row", ()),))), ("tag", "t", (("call", "f", ()),))),
     "(more (first (row (row))) (t: (call f)))"),
)
PROGRAMS = (
    (((), (("f", (), ONE),)), "def f = 1"),
    (((), (("f", (("x", "num"), ("y", ("row", ("open", 4)))), ("op", "=", TWO, THREE)),)),
     "def f (x num) (y (row ?4)) = (= x ?3)"),
    (((("k", (("t", ()),)),), (("f", (), ("tag", "t", ())),)), "kind k (t)\ndef f = (t:)"),
    (((("k", (("t", ("num", ("row", "num"))), ("u", ()))), ("l", (("v", (("kind", "k"), ("row", ("kind", "k")))),))),
      (("f", (("x", ("kind", "l")),), TWO), ("g", (), ("gap", 0)))),
     "kind k (t num (row num)) (u)\nkind l (v k (row k))\ndef f (x l) = x\ndef g = ?0"),
    # Not let by, and of the form all the same.
    (((("k", (("t", ()), ("t", ()))), ("k", (("t", (("kind", "z"),)),))),
      (("f", (("x", ("open", 1)), ("x", ("open", 1))), ("name", "q")), ("f", (), ("call", "f", (THREE, THREE))))),
     "kind k (t) (t)\nkind k (t z)\ndef f (x ?1) (x ?1) = q\ndef f = (call f ?3 ?3)"),
)


class Written(unittest.TestCase):
    def both_ways(self, write, read, value, text):
        kept = repr(value)
        for k in range(2):
            self.assertEqual(write(value), text)
            told = read(text)
            # By repr also the sorts of all in it are the same: tuples, texts, whole numbers.
            self.assertEqual(repr(told), kept)
        self.assertEqual(repr(value), kept)

    def test_kinds_by_hand(self):
        for kind, text in KINDS:
            self.both_ways(kind_text, read_kind, kind, text)

    def test_terms_by_hand(self):
        self.assertEqual({term[0] for term, text in TERMS}, set(FORMS))
        for term, text in TERMS:
            self.both_ways(term_text, read_term, term, text)

    def test_programs_by_hand(self):
        for program, text in PROGRAMS:
            self.both_ways(program_text, read_program, program, text)

    def test_kinds_within_rows(self):
        for core in CORES + (("open", 0), ("any", 99), ("kind", "rows")):
            for many in (0, 1, 2, 3, 4, 5, 6, 15, 130):
                kind = rows_of(core, many)
                self.both_ways(kind_text, read_kind, kind, slow_kind_text(kind))

    def test_letters_of_more_figures_are_written_too(self):
        self.assertEqual(kind_text(("row", ("any", 130))), "(row '130)")

    def test_terms_by_seeds(self):
        seen = set()
        for term in make_terms(41, 800):
            seen.update(part[0] for part in slow_parts(term))
            self.both_ways(term_text, read_term, term, slow_term_text(term))
        self.assertEqual(seen, set(FORMS))

    def test_greater_terms_by_seeds(self):
        rand = seeded(42)
        for k in range(60):
            term = make_term(rand, rand.randint(41, 120))
            self.both_ways(term_text, read_term, term, slow_term_text(term))

    def test_programs_by_seeds(self):
        rand = seeded(43)
        sizes = set()
        for k in range(500):
            program = make_program(rand, 40)
            sizes.add((len(program[0]), len(program[1])))
            self.both_ways(program_text, read_program, program, slow_program_text(program))
        self.assertEqual(len(sizes), 12)

    def test_very_deep_ones(self):
        term = ("gap", 8)
        for k in range(3000):
            term = ("match", ("num", 1), (("t", ("x",), term),))
        text = term_text(term)
        self.assertEqual(text, "(match 1 (t x " * 3000 + "?8" + "))" * 3000)
        self.assertEqual(term_text(read_term(text)), text)


if __name__ == "__main__":
    unittest.main()
