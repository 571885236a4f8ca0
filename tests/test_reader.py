import unittest

from gapwork import errors
from gapwork.reader import read_kind, read_program, read_term
from gapwork.writer import kind_text, program_text, term_text
from tests.helper import (KEPT, first_bad_row, is_kind_text, is_term_text, make_kind, make_program, make_term,
                          otherwise, rows_otherwise, seeded, slow_kind_text, slow_program_text, slow_term_text)

ROUND_ANY = ("", " ", "\n", "(", ")", "()", "[]", "[", "( )", "num num", "((num))", " num", "num ", "num\n", "\nnum",
             "(row num", "row num)", "(row num))", "(row  num)", "( row num)", "(row num )", "(row\nnum)", "(row\tnum)",
             "[row num]", "(row num]", "<0>", "Num", "a_b", "a1", "abcdefg", "-1", "+", "\u00e4")
NO_KINDS = ROUND_ANY + ("0", "row", "kind", "(row)", "(row num num)", "(num)", "(row(row num))", "(kind a)", "(a)",
                        "(row ())", "((row) num)", "?", "'", "?100", "'100", "?00", "?01", "'00", "'07", "? 1", "?a",
                        "?-1", "?+1", "'1 ", "?'1", "??1", "(rows num)", "(Row num)", "a:", "=")
NO_TERMS = ROUND_ANY + ("00", "01", "007", "0000000", "1000000", "1234567", "1_0", "+1", "?", "?00", "?01", "?100",
                        "?-1", "'0", "(a)", "(a 1)", "(a b 1)", "(+)", "(+ 1)", "(+ 1 2 3)", "(/ 1 2)", "(++ 1 2)",
                        "(+1 2)", "(:: 1)", "(: 1)", "(a:b 1)", "(a :)", "(a : 1)", "(abcdefg:)", "(A:)", "(more)",
                        "(more 1)", "(more 1 2 3)", "(first)", "(first 1 2)", "(others)", "(long)", "(long 1 2)",
                        "(if 1 2)", "(if 1 2 3 4)", "(let)", "(let x 1)", "(let 1 1 1)", "(let ?1 1 1)",
                        "(let x 1 2 3)", "(let (x) 1 2)", "(fold 1 x y 2)", "(fold 1 x 2 3 4)", "(fold x y 1 2 3)",
                        "(fold 1 2 y 3 4)", "(fold 1 x y 2 3 4)", "(call)", "(call 1)", "(call (f))", "(call ?1)",
                        "(call f (t 1))", "(match)", "(match (t 1))", "(match x 1)", "(match x y)", "(match x ())",
                        "(match x (t))", "(match x (t 1 2))", "(match x (t: 1))", "(match x (t a (u 1)))",
                        "(match x (1 2))", "(match x (t ?1 2))", "(match x (row 1))", "(match x ((t) 1))",
                        "(match x [t 1])", "(match x (t 1) 2)", "(row (t 1))", "(row [1])", "((+ 1 2))", "((row))",
                        "((row) 1)", "(gap 1)", "(num 1)", "(name x)", "(tag t)", "(op + 1 2)", "(+ 1 2)(+ 1 2)",
                        "(+ 1 2) 3", "1 2", "(row 1)2", "2(row 1)", "(row (row)1)", "(row 1(row))", "(=1 2)")
# Each with the first row by which it can't be a program's text.
NO_PROGRAMS = (
    ("", 0), ("\n", 0), (" ", 0), ("def", 0), ("def f", 0), ("def f =", 0), ("def f = ", 0), ("def = 1", 0),
    ("def f 1", 0), ("def f=1", 0), ("def f  = 1", 0), ("def f =  1", 0), ("def f = 1 ", 0), (" def f = 1", 0),
    ("def  f = 1", 0), ("deff = 1", 0), ("Def f = 1", 0), ("def f = 1 = 1", 0), ("def f = = 1", 0), ("def f g = 1", 0),
    ("def fold = 1", 0), ("def abcdefg = 1", 0), ("def (f) = 1", 0), ("def f x num = 1", 0), ("def f ab = 1", 0),
    ("def f (x) = 1", 0), ("def f () = 1", 0), ("def f (num) = 1", 0), ("def f (x num num) = 1", 0),
    ("def f (x num)= 1", 0),
    ("def f (x num) (y num = 1", 0), ("def f (x num)(y num) = 1", 0), ("def f (num num) = 1", 0),
    ("def f ((x) num) = 1", 0), ("def f [x num] = 1", 0), ("def f (x '0) = 1", 0), ("def f (x (row '12)) = 1", 0),
    ("def f (x ?100) = 1", 0), ("def f (x ?0) = '0", 0), ("def f = (t 1)", 0), ("def f = num", 0),
    ("def f = 1\n", 1), ("\ndef f = 1", 0), ("def f = 1\n\ndef g = 1", 1), ("def f = 1\rdef g = 1", 0),
    ("def f\n= 1", 0), ("def f = (+ 1\n2)", 0), ("def f = 1\ndef g = (+ 1\n2)", 1),
    ("kind k (t)", 1), ("kind k (t)\nkind l (u)", 2), ("kind k (t)\n", 1), ("kind k (t)\n\n", 1),
    ("kind\ndef f = 1", 0), ("kind k\ndef f = 1", 0), ("kind k \ndef f = 1", 0), ("kind (t)\ndef f = 1", 0),
    ("kind k t\ndef f = 1", 0), ("kind k ab\ndef f = 1", 0), ("kind k ()\ndef f = 1", 0),
    ("kind k (num)\ndef f = 1", 0), ("kind row (t)\ndef f = 1", 0), ("kind k (t num\ndef f = 1", 0),
    ("kind k (t)(u)\ndef f = 1", 0),
    ("kind k (t: num)\ndef f = 1", 0), ("kind k (t 1)\ndef f = 1", 0), ("kind k [t]\ndef f = 1", 0),
    ("kind k (t ?0)\ndef f = 1", 0), ("kind k (t (row ?0))\ndef f = 1", 0), ("kind k (t '0)\ndef f = 1", 0),
    ("kind k (t) (u num (row '5))\ndef f = 1", 0), ("kind k (t)\nkind l (u ?1)\ndef f = 1", 1),
    ("kind k ((t) num)\ndef f = 1", 0), ("kind k (t) u\ndef f = 1", 0), ("kind k = 1\ndef f = 1", 0),
    ("def f = 1\nkind k (t)", 1), ("def f = 1\nkind k (t)\ndef g = 1", 1), ("def f = 1\ndef g = 1\nkind k (t)", 2),
    ("kind k (t)\ndef f = 1\nkind l (u)\nnone", 2), ("kind k (t)\ndef f = 1\ndef g = x y", 2),
    ("kind k (t)\nnone\ndef f = x y", 1), ("kind k (t)\ndef f = x y\nnone", 1),
)


class Refused(unittest.TestCase):
    def refused(self, read, text, at):
        for k in range(2):
            with self.assertRaises(errors.GapError, msg=repr(text)) as taken:
                read(text)
            error = taken.exception
            self.assertIs(type(error), errors.BadText)
            self.assertIsInstance(error, ValueError)
            for other in (errors.Twice, errors.NoName, errors.WrongCount, errors.Clash, errors.NoGap, errors.TooLong,
                          errors.TooMany, errors.NoRow):
                self.assertNotIsInstance(error, other)
            self.assertEqual(error.at, at, repr(text))
            self.assertIs(type(error.at), int)

    def compare(self, read, write, text, right, at):
        if right:
            told = read(text)
            self.assertEqual(write(told), text)
            self.assertEqual(repr(read(text)), repr(told))
        else:
            self.refused(read, text, at)

    def test_no_kinds(self):
        for text in set(NO_KINDS) - {"(row num)"}:
            self.assertFalse(is_kind_text(text), repr(text))
            self.refused(read_kind, text, 0)

    def test_no_terms(self):
        for text in set(NO_TERMS):
            self.assertFalse(is_term_text(text), repr(text))
            self.refused(read_term, text, 0)

    def test_no_programs(self):
        for text, at in NO_PROGRAMS:
            self.assertEqual(first_bad_row(text), at, repr(text))
            self.refused(read_program, text, at)

    def test_kept_words_and_long_names_for_names(self):
        for word in KEPT + ["abcdefg", "A", "a1", "?1", "1"]:
            for text in ("(let # 1 2)", "(fold 1 # y 2 3)", "(fold 1 x # 2 3)", "(call #)", "(call # 1)", "(#:)",
                         "(#: 1)", "(match 1 (# 2))", "(match 1 (t # 2))", "(match 1 (t x # y 2))"):
                self.refused(read_term, text.replace("#", word), 0)
            for text, at in (("def # = 1", 0), ("def f (# num) = 1", 0), ("kind # (t)\ndef f = 1", 0),
                             ("kind k (#)\ndef f = 1", 0), ("kind k (t)\ndef # = 1", 1)):
                self.refused(read_program, text.replace("#", word), at)
            if word not in ("num", "?1"):
                self.refused(read_kind, word, 0)
                self.refused(read_kind, f"(row {word})", 0)
            if word not in ("?1", "1"):
                self.refused(read_term, word, 0)
                self.refused(read_term, f"(first {word})", 0)

    def test_figures_at_the_edges(self):
        self.assertEqual(read_term("999999"), ("num", 999999))
        for k in range(100):
            self.assertEqual(read_term(f"?{k}"), ("gap", k))
            self.assertEqual(read_kind(f"?{k}"), ("open", k))
            self.assertEqual(read_kind(f"'{k}"), ("any", k))
        for sign in ("\u0661", "\u00b2", "\uff11"):
            self.refused(read_term, sign, 0)
            self.refused(read_term, "?" + sign, 0)
            self.refused(read_kind, "'" + sign, 0)

    def test_kinds_otherwise(self):
        rand = seeded(51)
        right = 0
        for k in range(4000):
            text = otherwise(rand, slow_kind_text(make_kind(rand)))
            right += is_kind_text(text)
            self.compare(read_kind, kind_text, text, is_kind_text(text), 0)
        self.assertGreater(right, 200)

    def test_terms_otherwise(self):
        rand = seeded(52)
        right = 0
        for k in range(4000):
            text = otherwise(rand, slow_term_text(make_term(rand, rand.randint(1, 20))))
            right += is_term_text(text)
            self.compare(read_term, term_text, text, is_term_text(text), 0)
        self.assertGreater(right, 200)

    def test_programs_otherwise(self):
        rand = seeded(53)
        seen = {}
        for k in range(4000):
            change = otherwise if rand.randrange(2) else rows_otherwise
            text = change(rand, slow_program_text(make_program(rand, 8)))
            at = first_bad_row(text)
            seen[at] = seen.get(at, 0) + 1
            self.compare(read_program, program_text, text, at is None, at)
        for at in (None, 0, 1, 2, 3, 4):
            self.assertGreater(seen.get(at, 0), 30, at)

    def test_brackets_within_one_another(self):
        text = "(row " * 60 + "1" + ")" * 60
        self.assertEqual(term_text(read_term(text)), text)
        self.refused(read_term, text + ")", 0)
        self.refused(read_term, "(" + text, 0)
        self.refused(read_term, text[:-1], 0)


if __name__ == "__main__":
    unittest.main()
