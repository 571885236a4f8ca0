import unittest

from gapwork.errors import TooLong
from gapwork.filled import filled
from gapwork.kinds import is_of, last_kinds, look
from gapwork.reader import read_program, read_term
from gapwork.runs import run
from gapwork.thingtexts import read_thing
from tests.helper import (arms, around, exact_term, make_of, outcome, runs_to_do, seeded, slow_all_kinds, slow_run,
                          texts_in, things)

KINDS = "kind k (t num) (u) (w (row num) num)\n"


def thing(text):
    return read_thing(text)


def may_be_run(text, *inputs):
    """The program of a text and its inputs, where it may be run with these."""
    program, given = read_program(text), things(inputs)
    assert look(program)
    assert all(is_of(program, each, kind) for each, kind in zip(given, last_kinds(program)[0], strict=True)), text
    return program, given


def ask(text, *inputs, most=200):
    return run(*may_be_run(text, *inputs), most)


class Closed(unittest.TestCase):
    """Runs without gaps: what they tell, and how many doings they are."""

    def tell(self, term, wanted, many, params="", inputs=()):
        text = f"{KINDS}def f{params} = {term}"
        self.assertEqual(ask(text, *inputs), ("sheet", (thing(wanted), ()), many), term)

    def test_numbers_and_names(self):
        self.tell("0", "0", 0)
        self.tell("999999", "999999", 0)
        self.tell("y", "[1]", 0, " (x num) (y (row num))", ("7", "[1]"))

    def test_ops(self):
        for term, wanted in (
            ("(+ 2 3)", 5), ("(+ 999999 1)", 0), ("(+ 999999 999999)", 999998), ("(+ 500000 499999)", 999999),
            ("(- 5 3)", 2), ("(- 3 5)", 999998), ("(- 0 999999)", 1), ("(- 0 1)", 999999), ("(- 4 4)", 0),
            ("(* 6 7)", 42), ("(* 999999 999999)", 1), ("(* 1000 1000)", 0), ("(* 1000 1001)", 1000), ("(* 0 7)", 0),
            ("(: 17 5)", 2), ("(: 5 17)", 5), ("(: 0 3)", 0), ("(: 999999 1)", 0), ("(: 9 9)", 0), ("(: 7 999999)", 7),
            ("(< 1 2)", 1), ("(< 2 1)", 0), ("(< 2 2)", 0), ("(= 3 3)", 1), ("(= 3 4)", 0), ("(= 4 3)", 0),
        ):
            self.tell(term, str(wanted), 1)
        self.tell("(- (* 3 4) (+ 1 (: 9 4)))", "10", 4)

    def test_rows(self):
        self.tell("(row)", "[]", 0)
        self.tell("(row 1 (+ 1 1) 3)", "[1 2 3]", 1)
        self.tell("(row (row) (row 1))", "[[] [1]]", 0)
        self.tell("(more 1 (row))", "[1]", 1)
        self.tell("(more (row 3) (row (row 1) (row)))", "[[3] [1] []]", 1)
        self.tell("(first (row 4 5 6))", "4", 1)
        self.tell("(others (row 4 5 6))", "[5 6]", 1)
        self.tell("(others (row 4))", "[]", 1)
        self.tell("(long (row))", "0", 1)
        self.tell("(long (row 4 4 4))", "3", 1)
        self.tell("(first (others (more 9 (row 8 7))))", "8", 3)

    def test_tags_and_matches(self):
        self.tell("(u:)", "(u)", 0)
        self.tell("(w: (row 1) (+ 2 3))", "(w [1] 5)", 1)
        match = "(match {} (w x y (more y x)) (t y (row y y)) (u (row)))"
        self.tell(match.format("(t: 4)"), "[4 4]", 1)
        self.tell(match.format("(u:)"), "[]", 1)
        self.tell(match.format("(w: (row 1 2) 3)"), "[3 1 2]", 2)

    def test_ifs(self):
        for n, wanted in ((0, "2"), (1, "1"), (7, "1"), (999999, "1")):
            self.tell(f"(if {n} 1 2)", wanted, 1)
        self.tell("(if (- 3 3) (+ 1 1) (* 2 (if 4 5 6)))", "10", 4)

    def test_lets(self):
        self.tell("(let x (+ 1 2) (row x x))", "[3 3]", 1)
        self.tell("(let x 1 (let y (row x) (let x 2 (more x y))))", "[2 1]", 1)
        self.tell("(let x (+ x 1) (+ x 10))", "16", 2, " (x num)", ("5",))
        self.tell("(+ (let x 1 x) x)", "6", 1, " (x num)", ("5",))

    def test_folds(self):
        self.tell("(fold (row 1 2 3) x y 0 (+ x y))", "6", 6)
        self.tell("(fold (row 1 2 3) x y (row) (more x y))", "[3 2 1]", 6)
        self.tell("(fold (row 1 2 3) x y 0 y)", "0", 3)
        self.tell("(fold (row 1 2 3) x y 0 x)", "3", 3)
        self.tell("(fold (row) x y (+ 1 1) (first (row)))", "2", 1)
        self.tell("(fold (row 8 9) x y (row) (row x (long y)))", "[9 2]", 4)
        self.tell("(fold (row 1 2) a y x (- (* y 10) a))", "688", 6, " (x num) (y num)", ("7", "4"))
        self.tell("(fold (row (row 1 2) (row 3)) x y 0 (+ y (fold x x y 0 (+ x y))))", "6", 10)

    def test_calls(self):
        text = "def f (x num) (y num) = (- x y)\ndef g (y num) (x num) = (call f (call f y 1) x)"
        self.assertEqual(ask(text, "9", "5"), ("sheet", (thing("3"), ()), 4))
        # The params alone are at hand in a def, and the names around a call are what they were behind it.
        text = "def f (y num) = (let x (* y 2) x)\ndef g (x num) = (+ (call f (+ x 1)) x)"
        self.assertEqual(ask(text, "3"), ("sheet", (thing("11"), ()), 4))
        text = "def e = 7\ndef f (x num) = (+ x (call e))\ndef g = (let x 1 (row (call f 2) x (call e)))"
        self.assertEqual(ask(text), ("sheet", (thing("[9 1 7]"), ()), 4))

    def test_names_bound_anew_within_one_another(self):
        self.tell("(match x (t x (fold (row x 2) x y (let x (row x) x) (let y (more x y) (others y)))) (u (row)) "
                  "(w x y x))", "[5]", 7, " (x k)", ("(t 5)",))
        self.tell("(fold (row 1 2) y x (let y 9 y) (+ (* x 10) y))", "912", 6, " (x num) (y num)", ("3", "4"))

    def test_the_last_def_is_run(self):
        self.assertEqual(ask("def f = (first (row))\ndef g = 2"), ("sheet", (thing("2"), ()), 0))

    def test_inputs_as_a_list_or_a_tuple(self):
        program = read_program("def f (x num) (y (row num)) = (more x y)")
        given = things(["1", "[2 3]"])
        wanted = ("sheet", (thing("[1 2 3]"), ()), 1)
        kept = repr((program, given))
        self.assertEqual(run(program, given, 5), wanted)
        self.assertEqual(run(program, tuple(given), 5), wanted)
        self.assertEqual(run(program, given, 5), wanted)
        self.assertEqual(repr((program, given)), kept)


class Faults(unittest.TestCase):
    def test_each(self):
        for term in ("(: 1 0)", "(: 0 0)", "(: 5 (- 3 3))", "(first (row))", "(others (row))",
                     "(first (others (row 1)))", "(others (others (row 1)))"):
            self.assertEqual(ask(f"def f = {term}"), ("fault",), term)

    def test_of_a_left(self):
        self.assertEqual(ask("def f = (: ?1 0)"), ("fault",))
        self.assertEqual(ask("def f (x num) = (: (+ ?1 1) x)", "0"), ("fault",))
        self.assertEqual(ask("def f = (: 0 ?1)")[0], "sheet")
        self.assertEqual(ask("def f = (: ?1 1)")[0], "sheet")

    def test_whatever_comes_behind_and_around(self):
        for term in ("(row (: 1 0) ?1)", "(+ ?1 (first (row)))", "(let x (: 1 0) 5)", "(if (: 1 0) 1 1)",
                     "(if 0 1 (: 1 0))", "(more (first (row)) ?1)", "(long (row (: 1 0)))",
                     "(fold (row) x y (: 1 0) 1)",
                     "(fold ?1 x y (: 1 0) 1)", "(fold (row 1) x y ?1 (: y 0))", "(fold (row 1 0) x y 1 (: 7 x))",
                     "(match (t: (: 1 0)) (t x 1) (u 1) (w x y 1))", "(match (u:) (t x 1) (u (first (row))) (w x y 1))",
                     "(let x ?1 (let y (+ x 1) (others (row))))"):
            self.assertEqual(ask(f"{KINDS}def f = {term}"), ("fault",), term)
        self.assertEqual(ask("def f (x num) = (: 5 x)\ndef g = (row ?1 (call f 0))"), ("fault",))
        self.assertEqual(ask("def f (x num) = 1\ndef g = (call f (: 5 0))"), ("fault",))

    def test_that_is_not_reached(self):
        for term in ("(if 0 (: 1 0) 1)", "(if 1 1 (: 1 0))", "(fold (row) x y 1 (: 1 0))",
                     "(match (u:) (t x (: 1 0)) (u 1) (w x y (: 1 0)))"):
            self.assertEqual(ask(f"{KINDS}def f = {term}")[0], "sheet", term)
        for term in ("(if ?1 (: 1 0) (: 1 0))", "(fold ?1 x y 1 (: 1 0))", "(first ?1)",
                     "(match ?1 (t x (: 1 0)) (u (: 1 0)) (w x y (: 1 0)))", "(: 1 (+ ?1 0))"):
            self.assertEqual(ask(f"{KINDS}def f = {term}")[0], "sheet", term)
        self.assertEqual(ask("def f = (: 1 0)\ndef g = 1")[0], "sheet")


class Sheets(unittest.TestCase):
    def tell(self, text, inputs, wanted, rows, many):
        self.assertEqual(ask(KINDS + text, *inputs), ("sheet", (thing(wanted), tuple(rows)), many), text)

    def test_a_gap(self):
        self.tell("def f = ?5", (), "<0>", [("gap", 5, ())], 0)
        self.tell("def f (x num) (y (row num)) = ?0", ("3", "[4]"), "<0>", [("gap", 0, around(x="3", y="[4]"))], 0)
        self.tell("def f (x num) (y num) = (let x (+ x 1) (row x ?9))", ("3", "4"), "[4 <0>]",
                  [("gap", 9, around(y="4", x="4"))], 1)

    def test_ops(self):
        for sign in "+-*:<=":
            gap = ("gap", 1, ())
            self.tell(f"def f = ({sign} ?1 5)", (), "<1>", [gap, ("op", sign, ("left", 0), ("num", 5))], 0)
            self.tell(f"def f = ({sign} 0 ?1)", (), "<1>", [gap, ("op", sign, ("num", 0), ("left", 0))], 0)
            self.tell(f"def f = ({sign} ?1 ?2)", (), "<2>",
                      [gap, ("gap", 2, ()), ("op", sign, ("left", 0), ("left", 1))], 0)

    def test_rows(self):
        gap = ("gap", 1, ())
        self.tell("def f = (more (+ 1 2) ?1)", (), "<1>", [gap, ("more", ("num", 3), ("left", 0))], 1)
        self.tell("def f = (more ?1 (row 2))", (), "[<0> 2]", [gap], 1)
        self.tell("def f = (first ?1)", (), "<1>", [gap, ("first", ("left", 0))], 0)
        self.tell("def f = (others ?1)", (), "<1>", [gap, ("others", ("left", 0))], 0)
        self.tell("def f = (long ?1)", (), "<1>", [gap, ("long", ("left", 0))], 0)
        self.tell("def f = (long (more 1 (others ?1)))", (), "<3>",
                  [gap, ("others", ("left", 0)), ("more", ("num", 1), ("left", 1)), ("long", ("left", 2))], 0)

    def test_lefts_within_rows_and_tags_are_looked_at_as_far_as_they_are_there(self):
        gap = ("gap", 1, ())
        self.tell("def f = (first (row ?1 2))", (), "<0>", [gap], 1)
        self.tell("def f = (others (row ?1 2))", (), "[2]", [gap], 1)
        self.tell("def f = (long (row ?1))", (), "1", [gap], 1)
        self.tell("def f = (more ?1 (row))", (), "[<0>]", [gap], 1)
        self.tell("def f = (match (t: ?1) (t x (row x 1)) (u (row)) (w x y x))", (), "[<0> 1]", [gap], 1)
        self.tell("def f = (fold (row 1 ?1 2) x y (row) (more x y))", (), "[2 <0> 1]", [gap], 6)
        self.tell("def f = (fold (row 1 ?1) x y 0 (+ y x))", (), "<1>",
                  [gap, ("op", "+", ("num", 1), ("left", 0))], 3)

    def test_a_match(self):
        text = "(w q y (more y q)) (t x (row ?2)) (u (row (: 1 0)))"
        self.tell(f"def f (x num) = (let y (+ x x) (match ?1 {text}))", ("4",), "<1>",
                  [("gap", 1, around(x="4", y="8")), ("match", ("left", 0), arms(text), around(x="4", y="8"))], 1)

    def test_an_if(self):
        self.tell("def f (x num) (y num) = (let x 1 (if (< ?3 y) (+ ?4 x) (: x 0)))", ("4", "6"), "<2>",
                  [("gap", 3, around(y="6", x="1")), ("op", "<", ("left", 0), ("num", 6)),
                   ("if", ("left", 1), read_term("(+ ?4 x)"), read_term("(: x 0)"), around(y="6", x="1"))], 0)

    def test_a_fold(self):
        # What is around is at hand at the fold itself, not in its rounds; b is gone through at once.
        self.tell("def f (x num) (z num) = (fold ?3 x y (row (+ z ?4) z) (more ?5 (more x y)))", ("4", "6"), "<3>",
                  [("gap", 3, around(x="4", z="6")), ("gap", 4, around(x="4", z="6")),
                   ("op", "+", ("num", 6), ("left", 1)),
                   ("fold", ("left", 0), "x", "y", thing("[<2> 6]"), read_term("(more ?5 (more x y))"),
                    around(x="4", z="6"))], 0)

    def test_gaps_in_rounds(self):
        self.tell("def f (a num) = (fold (row 7 8) x y a (+ ?1 y))", ("5",), "<3>",
                  [("gap", 1, around(a="5", x="7", y="5")), ("op", "+", ("left", 0), ("num", 5)),
                   ("gap", 1, around(a="5", x="8", y="<1>")), ("op", "+", ("left", 2), ("left", 1))], 2)

    def test_gaps_in_calls(self):
        self.tell("def f (x num) (y num) = (row x ?1 y)\ndef g (z num) = (let w (call f ?2 z) (more ?3 (call f 1 2)))",
                  ("5",), "[<2> 1 <3> 2]",
                  [("gap", 2, around(z="5")), ("gap", 1, around(x="<0>", y="5")),
                   ("gap", 3, around(z="5", w="[<0> <1> 5]")), ("gap", 1, around(x="1", y="2"))], 3)

    def test_the_order(self):
        self.tell("def f = (row (let x ?1 ?2) (+ ?3 ?4) (first (more ?5 ?6)))", (), "[<1> <4> <8>]",
                  [("gap", 1, ()), ("gap", 2, around(x="<0>")), ("gap", 3, ()), ("gap", 4, ()),
                   ("op", "+", ("left", 2), ("left", 3)), ("gap", 5, ()), ("gap", 6, ()),
                   ("more", ("left", 5), ("left", 6)), ("first", ("left", 7))], 0)
        self.tell("def f = (w: (row ?9 ?8) (if ?7 ?6 ?5))", (), "(w [<0> <1>] <3>)",
                  [("gap", 9, ()), ("gap", 8, ()), ("gap", 7, ()),
                   ("if", ("left", 2), ("gap", 6), ("gap", 5), ())], 0)

    def test_what_is_written_is_not_gone_into(self):
        # Nor is a doing counted for it.
        self.tell("def f = (if ?1 (+ 1 1) (first (row)))", (), "<1>",
                  [("gap", 1, ()), ("if", ("left", 0), read_term("(+ 1 1)"), read_term("(first (row))"), ())], 0)
        self.tell("def f (x num) = (+ x ?1)\ndef g = (if (call f (+ 1 1)) ?2 ?3)", (), "<2>",
                  [("gap", 1, around(x="2")), ("op", "+", ("num", 2), ("left", 0)),
                   ("if", ("left", 1), ("gap", 2), ("gap", 3), ())], 2)


class Many(unittest.TestCase):
    def counts(self, text, many, *inputs):
        program, given = may_be_run(KINDS + text, *inputs)
        told = run(program, given, many)
        self.assertEqual((told[0], told[2]), ("sheet", many), text)
        self.assertEqual(run(program, given, 200), told)
        for most in range(1, many):
            with self.assertRaises(TooLong) as taken:
                run(program, given, most)
            self.assertEqual(taken.exception.most, most)

    def test_each_sort(self):
        self.counts("def f = (+ 1 (* 2 (- 4 (< 5 (= 6 7)))))", 5)
        self.counts("def f = (long (more 1 (others (row (first (row 1))))))", 4)
        self.counts("def f = (if 1 (if 0 1 (if 2 3 4)) (+ 1 1))", 3)
        self.counts("def f = (match (t: 1) (t x (match (u:) (t y 1) (u x) (w y z 3))) (u 1) (w y z 4))", 2)
        self.counts("def f = 1\ndef g (x num) = (call f)\ndef h = (call g (call g 1))", 4)
        self.counts("def f = (fold (row 1 2 3 4 5) x y 0 y)", 5)
        self.counts("def f = (fold (row 1 2 3) x y 0 (fold (row 4 5) z y x (+ z y)))", 15)
        self.counts("def f = (let x (row 1 2) (let y (t: 3) (row y)))", 0)

    def test_as_many_as_most(self):
        # 200 doings, no more: rounds of a fold in a fold.
        ten = "(row " + " ".join("0123456789") + ")"
        text = f"def f = (fold {ten} x y 0 (fold (others {ten}) z y y (+ y 1)))"
        self.assertEqual(ask(text, most=200), ("sheet", (thing("90"), ()), 200))
        with self.assertRaises(TooLong) as taken:
            ask(text, most=199)
        self.assertEqual(taken.exception.most, 199)

    def test_faults_ahead_of_too_many(self):
        self.assertEqual(ask("def f = (row (+ 1 1) (: 1 0) (+ 1 1))", most=1), ("fault",))
        self.assertEqual(ask("def f = (: (+ 1 1) (- 1 1))", most=2), ("fault",))
        self.assertEqual(ask("def f = (row (+ 1 1) (first (row)))", most=1), ("fault",))
        self.assertEqual(ask("def f = (row (row (+ 1 1)) (others (row)))", most=1), ("fault",))
        for text in ("def f = (row (+ 1 1) (+ 1 1) (: 1 0))", "def f = (: (+ 1 1) (- 1 1))",
                     "def f = (row (+ 1 1) (if 1 (: 1 0) 1))", "def f = (row (+ 1 1) (fold (row 1) x y 1 (: 1 0)))",
                     "def f = (: 1 0)\ndef g = (row (+ 1 1) (call f))"):
            with self.assertRaises(TooLong, msg=text) as taken:
                ask(text, most=1)
            self.assertEqual(taken.exception.most, 1)

    def test_what_is_written_is_no_doing(self):
        told = ask("def f = (row (+ ?1 1) (first ?2) (long (others ?3)) (long ?4) (long (more 1 ?5)) (if ?6 1 2) "
                   "(fold ?7 x y 1 1) (+ 1 1))", most=1)
        self.assertEqual((told[0], len(told[1][1]), told[2]), ("sheet", 16, 1))


class Great(unittest.TestCase):
    def test_things_of_many_things(self):
        # Rows of rows, each with the one before twice over: 2 ** 14 numbers and more.
        names = ["a" + sign for sign in "abcdefghijklm"]
        inner = ("name", names[-1])
        for at in range(12, -1, -1):
            before = ("name", names[at - 1]) if at else ("num", 1)
            inner = ("let", names[at], ("row", (before, before)), inner)
        told = run(((), (("f", (), inner),)), (), 5)
        wanted = ("num", 1)
        for k in range(13):
            wanted = ("row", (wanted, wanted))
        self.assertEqual(told, ("sheet", (wanted, ()), 0))

    def test_a_long_row(self):
        row = ("row", tuple(("num", n) for n in range(19000)))
        text = "def f (r (row num)) = (row (long (more 1 r)) (first r) (long (others r)))"
        self.assertEqual(run(read_program(text), [row], 9), ("sheet", (thing("[19001 0 18999]"), ()), 5))
        text = "def f (r (row num)) = (fold r x y 0 x)"
        with self.assertRaises(TooLong):
            run(read_program(text), [row], 200)

    def test_deeper_than_python_goes(self):
        term = ("gap", 1)
        for k in range(3000):
            term = ("let", "x", ("num", k), ("row", (term,)))
        told = run(((), (("f", (), ("long", term)),)), (), 1)
        self.assertEqual(told, ("sheet", (("num", 1), (("gap", 1, (("x", ("num", 0)),)),)), 1))


class BySeeds(unittest.TestCase):
    def test_as_by_recursion(self):
        seen = {}
        for program, inputs in runs_to_do(91, 1500) + runs_to_do(92, 800, size=40, gap=0.02):
            for most in (200, 7, 2):
                wanted = slow_run(program, inputs, most)
                self.assertEqual(outcome(run, program, inputs, most), wanted, (program, inputs, most))
                word = wanted[1][0] if wanted[0] == "told" else wanted[0]
                seen[word] = seen.get(word, 0) + 1
                if word == "sheet":
                    for row in wanted[1][1][1]:
                        seen[row[0]] = seen.get(row[0], 0) + 1
        self.assertGreater(min(seen.values()), 40, seen)
        self.assertEqual(len(seen), 12, seen)

    def test_just_as_many_as_most(self):
        for program, inputs in runs_to_do(93, 500, gap=0.05):
            told = slow_run(program, inputs, 200)[1]
            if told[0] == "sheet" and told[2] > 1:
                self.assertEqual(run(program, inputs, told[2]), told)
                self.assertEqual(outcome(run, program, inputs, told[2] - 1), ("TooLong", told[2] - 1))

    def test_things_keep_their_kinds(self):
        closed = 0
        for program, inputs in runs_to_do(94, 600, gap=0.03):
            told = outcome(run, program, inputs, 200)
            if told[0] == "told" and told[1][0] == "sheet" and not told[1][1][1]:
                kind = last_kinds(program)[1]
                if "any" not in texts_in((kind,)):
                    self.assertIs(is_of(program, told[1][1][0], kind), True)
                    closed += 1
        self.assertGreater(closed, 150)

    def test_a_fault_stays_a_fault_however_it_is_filled(self):
        rand = seeded(95)
        faults = 0
        for program, inputs in runs_to_do(96, 1500, gap=0.2):
            of_gaps, of_opens, last = slow_all_kinds(program)
            if of_gaps and outcome(run, program, inputs, 200) == ("told", ("fault",)):
                some = [n for n in of_gaps if rand.randrange(3)]
                kinds = {n: of_gaps[n][1] for n in some}
                terms = tuple((n, exact_term(program, num_for_letters(kind))) for n, kind in kinds.items())
                self.assertEqual(run(filled(program, terms, ()), inputs, 10 ** 6), ("fault",))
                faults += 1
        self.assertGreater(faults, 40)

    def test_what_is_handed_in_stays_as_it_is(self):
        rand = seeded(97)
        for program, inputs in runs_to_do(98, 100):
            given = list(inputs)
            kept = repr((program, given))
            first = outcome(run, program, given, 200)
            given.append(make_of(rand, program, "num"))
            given.pop()
            self.assertEqual(outcome(run, program, given, 200), first)
            self.assertEqual(repr((program, given)), kept)


def num_for_letters(kind):
    if kind[0] == "row":
        return ("row", num_for_letters(kind[1]))
    return "num" if kind[0] == "any" else kind


if __name__ == "__main__":
    unittest.main()
