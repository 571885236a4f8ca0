import unittest

from gapwork.errors import NoGap, TooLong, Twice
from gapwork.filled import filled
from gapwork.kinds import is_of, last_kinds, look
from gapwork.noughts import noughts
from gapwork.programs import gaps
from gapwork.reader import read_kind, read_program, read_term
from gapwork.runs import run
from gapwork.sheets import sheet_filled
from gapwork.terms import with_gaps_put
from gapwork.thingtexts import read_thing, thing_text
from tests.helper import (arms, around, fillings, make_fillings, outcome, runs_to_do, seeded, slow_run, texts_in,
                          things)

KINDS = "kind k (t num) (u) (w (row num) num)\n"
MANY = 3000


def begun(text, *inputs):
    """The program of a text, and the sheet of its run with these inputs."""
    program = read_program(KINDS + text)
    assert look(program)
    word, sheet, many = run(program, things(inputs), 200)
    return program, sheet


def ask(text, inputs, terms, kinds="", most=200):
    """What the sheet of a run tells, filled; the program so filled is let by."""
    program, sheet = begun(text, *inputs)
    terms, kinds = fillings(terms, read_term), fillings(kinds, read_kind)
    assert look(filled(program, terms, kinds))
    return sheet_filled(program, sheet, terms, kinds, most)


class Asking(unittest.TestCase):
    def tell(self, text, inputs, terms, wanted, rows=(), many=0):
        self.assertEqual(ask(text, inputs, terms), ("sheet", (read_thing(wanted), tuple(rows)), many), (text, terms))
        # The other way: filled first and then run.
        program, sheet = begun(text, *inputs)
        put = filled(program, fillings(terms, read_term), ())
        first = run(program, things(inputs), 200)[2]
        self.assertEqual(run(put, things(inputs), 400),
                         ("sheet", (read_thing(wanted), tuple(rows)), first + many), (text, terms))


class Done(Asking):
    """Rows that are done, as what they look at is there now."""

    def test_a_gap(self):
        self.tell("def f = ?1", (), "1 7", "7")
        self.tell("def f (x num) (y num) = ?1", ("3", "4"), "1 (- x y)", "999999", many=1)
        self.tell("def f (x num) (y num) = (let x (+ y 5) (row x ?1))", ("3", "4"), "1 (* x 2)", "[9 18]", many=1)
        self.tell("def f (x k) = (match x (t y (+ y ?1)) (u 0) (w a b b))", ("(t 6)",), "1 (* y y)", "42", many=2)

    def test_an_op(self):
        for sign, left, right in (("+", 12, 15), ("-", 2, 5), ("*", 35, 50), (":", 2, 0), ("<", 0, 0), ("=", 0, 0)):
            self.tell(f"def f = ({sign} ?1 5)", (), "1 7", str(left), many=1)
            self.tell(f"def f = ({sign} 10 ?1)", (), "1 5", str(right), many=1)
        self.tell("def f = (- ?1 ?2)", (), "2 3; 1 5", "2", many=1)
        self.tell("def f = (< ?1 ?2)", (), "2 6; 1 5", "1", many=1)
        self.tell("def f = (= ?1 ?2)", (), "2 5; 1 5", "1", many=1)

    def test_rows(self):
        self.tell("def f = (more 1 ?1)", (), "1 (row 2 3)", "[1 2 3]", many=1)
        self.tell("def f = (first ?1)", (), "1 (row 2 3)", "2", many=1)
        self.tell("def f = (others ?1)", (), "1 (row 2 3)", "[3]", many=1)
        self.tell("def f = (long ?1)", (), "1 (row 2 3)", "2", many=1)
        self.tell("def f = (long (more 1 (others ?1)))", (), "1 (row 2 3)", "2", many=3)

    def test_a_match(self):
        text = "def f (x num) = (let y 3 (match ?1 (t y (* x y)) (u y) (w a b (+ b ?2))))"
        self.tell(text, ("5",), "1 (t: (+ y 1))", "20", many=3)
        self.tell(text, ("5",), "1 (u:)", "3", many=1)
        # A gap in the arm that is gone into, filled or not.
        self.tell(text, ("5",), "1 (w: (row 7) 8)", "<1>",
                  [("gap", 2, around(x="5", y="3", a="[7]", b="8")), ("op", "+", ("num", 8), ("left", 0))], 1)
        self.tell(text, ("5",), "1 (w: (row 7) 8); 2 (first a)", "15", many=3)

    def test_an_if(self):
        text = "def f (x num) = (if ?1 (+ x ?2) (* x ?3))"
        self.tell(text, ("5",), "1 9; 2 1; 3 2", "6", many=2)
        self.tell(text, ("5",), "1 0; 2 1; 3 2", "10", many=2)
        self.tell(text, ("5",), "1 (- x x); 2 1", "<1>",
                  [("gap", 3, around(x="5")), ("op", "*", ("num", 5), ("left", 0))], 2)

    def test_a_fold(self):
        text = "def f (x num) (z num) = (fold ?1 x y (* z 2) (+ (* y 10) ?2))"
        self.tell(text, ("5", "3"), "1 (row z 4); 2 x", "634", many=6)
        self.tell(text, ("5", "3"), "1 (row); 2 x", "6")
        self.tell(text, ("5", "3"), "1 (row 8)", "<1>",
                  [("gap", 2, around(z="3", x="8", y="6")), ("op", "+", ("num", 60), ("left", 0))], 2)

    def test_what_is_begun_of_a_fold_may_have_lefts(self):
        self.tell("def f = (fold ?1 x y ?2 (more x y))", (), "1 (row 7)", "<1>",
                  [("gap", 2, ()), ("more", ("num", 7), ("left", 0))], 1)
        self.tell("def f = (fold ?1 x y ?2 (more x y))", (), "1 (row 7); 2 (row 6)", "[7 6]", many=2)

    def test_calls_in_what_is_put(self):
        text = "def f (x num) = (+ x ?1)\ndef g (y num) = (row ?2 y)"
        self.tell(text, ("5",), "2 (call f (* y 2)); 1 (- x 1)", "[19 5]", many=4)
        self.tell(text, ("5",), "2 (call f (* y 2))", "[<1> 5]",
                  [("gap", 1, around(x="10")), ("op", "+", ("num", 10), ("left", 0))], 2)

    def test_calls_behind_a_row_are_of_the_program_filled(self):
        text = "def f (x num) = (+ x ?1)\ndef g (y num) = (if ?2 (call f y) 0)"
        self.tell(text, ("5",), "1 4; 2 1", "9", many=3)
        self.tell(text, ("5",), "1 4", "<1>",
                  [("gap", 2, around(y="5")),
                   ("if", ("left", 0), read_term("(call f y)"), ("num", 0), around(y="5"))])

    def test_lefts_within_rows_and_tags(self):
        self.tell("def f = (row ?1 (row 2 ?2))", (), "2 (+ 1 2)", "[<0> [2 3]]", [("gap", 1, ())], 1)
        self.tell("def f = (first (others (row ?1 ?2)))", (), "2 4", "4", [("gap", 1, ())])
        self.tell("def f = (let x (w: (row ?1) ?2) (row x (if ?3 x (u:))))", (), "1 7; 3 1",
                  "[(w [7] <0>) (w [7] <0>)]", [("gap", 2, ())], 1)


class WrittenAnew(Asking):
    """Rows that can't be done yet, with the lefts of the new sheet and what is put."""

    def test_a_gap_with_what_is_around(self):
        self.tell("def f = (let x ?1 (let y (row ?2 x) ?3))", (), "1 (+ 2 3)", "<1>",
                  [("gap", 2, around(x="5")), ("gap", 3, around(x="5", y="[<0> 5]"))], 1)
        self.tell("def f = (let x ?1 (let y (row ?2 x) ?3))", (), "2 7", "<1>",
                  [("gap", 1, ()), ("gap", 3, around(x="<0>", y="[7 <0>]"))])

    def test_an_op(self):
        for sign in "+-*:<=":
            self.tell(f"def f = ({sign} ?1 ?2)", (), "1 8", "<1>",
                      [("gap", 2, ()), ("op", sign, ("num", 8), ("left", 0))])
            self.tell(f"def f = ({sign} ?1 ?2)", (), "2 8", "<1>",
                      [("gap", 1, ()), ("op", sign, ("left", 0), ("num", 8))])
            self.tell(f"def f = (row ?9 ({sign} ?1 ?2))", (), "9 8", "[8 <2>]",
                      [("gap", 1, ()), ("gap", 2, ()), ("op", sign, ("left", 0), ("left", 1))])

    def test_rows(self):
        gap = ("gap", 2, ())
        self.tell("def f = (more ?1 ?2)", (), "1 8", "<1>", [gap, ("more", ("num", 8), ("left", 0))])
        self.tell("def f = (more ?1 ?2)", (), "2 (row 8)", "[<0> 8]", [("gap", 1, ())], 1)
        for form in ("first", "others", "long"):
            self.tell(f"def f = (row ?1 ({form} ?2))", (), "1 " + ("(row 8)" if form == "others" else "8"),
                      "[[8] <1>]" if form == "others" else "[8 <1>]", [gap, (form, ("left", 0))])

    def test_a_match(self):
        text = "(t x (row ?2)) (u (row)) (w x z (more y x))"
        put = "(t x (row (+ x (first y)))) (u (row)) (w x z (more y x))"
        whole = f"def f (a num) = (let y ?1 (match ?3 {text}))"
        self.tell(whole.replace("(more y x)", "x"), ("4",), "1 (row a); 2 (+ x (first y))", "<1>",
                  [("gap", 3, around(a="4", y="[4]")),
                   ("match", ("left", 0), arms(put.replace("(more y x)", "x")), around(a="4", y="[4]"))])
        self.tell(whole, ("4",), "1 (* a 2)", "<1>",
                  [("gap", 3, around(a="4", y="8")), ("match", ("left", 0), arms(text), around(a="4", y="8"))], 1)

    def test_an_if(self):
        self.tell("def f = (let x ?1 (if ?2 ?3 (+ ?4 x)))", (), "4 (* 2 ?7); 1 6; 3 (- x ?3)", "<1>",
                  [("gap", 2, around(x="6")),
                   ("if", ("left", 0), read_term("(- x ?3)"), read_term("(+ (* 2 ?7) x)"), around(x="6"))])

    def test_a_fold(self):
        self.tell("def f = (let x ?1 (fold ?2 z y (row x ?3) (more ?4 y)))", (), "4 (+ z x); 1 6; 3 (+ x 1)", "<1>",
                  [("gap", 2, around(x="6")),
                   ("fold", ("left", 0), "z", "y", read_thing("[6 7]"), read_term("(more (+ z x) y)"),
                    around(x="6"))], 1)
        self.tell("def f = (let x ?1 (fold ?2 z y (row x ?3) (more ?4 y)))", (), "1 6", "<2>",
                  [("gap", 2, around(x="6")), ("gap", 3, around(x="6")),
                   ("fold", ("left", 0), "z", "y", read_thing("[6 <1>]"), read_term("(more ?4 y)"), around(x="6"))])

    def test_lefts_are_of_the_new_sheet(self):
        # The filling of the first gap has two rows where there was one, that of the second none.
        self.tell("def f = (row ?1 ?2 (long ?3))", (), "1 (+ ?8 ?9); 2 5", "[<2> 5 <4>]",
                  [("gap", 8, ()), ("gap", 9, ()), ("op", "+", ("left", 0), ("left", 1)), ("gap", 3, ()),
                   ("long", ("left", 3))])


class Gaps(Asking):
    def test_its_own_gap_again(self):
        self.tell("def f (x num) = (+ ?1 x)", ("3",), "1 (* 2 ?1)", "<2>",
                  [("gap", 1, around(x="3")), ("op", "*", ("num", 2), ("left", 0)),
                   ("op", "+", ("left", 1), ("num", 3))])
        self.tell("def f (x num) = (if ?1 ?2 ?3)", ("3",), "1 (+ 1 1); 2 (+ x ?2)", "<1>",
                  [("gap", 2, around(x="3")), ("op", "+", ("num", 3), ("left", 0))], 2)
        self.tell("def f = ?1", (), "1 ?1", "<0>", [("gap", 1, ())])

    def test_further_gaps(self):
        self.tell("def f (x num) = ?1", ("3",), "1 (let y (+ x 1) (row ?5 y ?6))", "[<0> 4 <1>]",
                  [("gap", 5, around(x="3", y="4")), ("gap", 6, around(x="3", y="4"))], 1)

    def test_exchanged(self):
        # What is put isn't gone into, in the program nor in the sheet.
        self.tell("def f = (let x ?1 (row x ?2))", (), "1 ?2; 2 ?1", "[<0> <1>]",
                  [("gap", 2, ()), ("gap", 1, around(x="<0>"))])
        self.tell("def f = (if ?3 (row ?1) (row ?2))", (), "1 ?2; 2 ?1; 3 1", "[<0>]", [("gap", 2, ())], 1)
        self.tell("def f = (if ?3 (row ?1) (row ?2))", (), "1 ?2; 2 ?1", "<1>",
                  [("gap", 3, ()), ("if", ("left", 0), read_term("(row ?2)"), read_term("(row ?1)"), ())])

    def test_come_to_more_than_once(self):
        text = "def f (a num) = (fold (row 7 8) x y a (+ ?1 y))"
        self.tell(text, ("5",), "1 (* x 2)", "35", many=4)
        self.tell(text, ("5",), "1 (* x ?9)", "<5>",
                  [("gap", 9, around(a="5", x="7", y="5")), ("op", "*", ("num", 7), ("left", 0)),
                   ("op", "+", ("left", 1), ("num", 5)),
                   ("gap", 9, around(a="5", x="8", y="<2>")), ("op", "*", ("num", 8), ("left", 3)),
                   ("op", "+", ("left", 4), ("left", 2))])
        text = "def f (x num) = (+ x ?1)\ndef g = (row (call f 1) (call f 2) ?2)"
        self.tell(text, (), "1 (* x 10)", "[11 22 <0>]", [("gap", 2, ())], 4)

    def test_never_come_to(self):
        self.tell("def f = (if 0 ?1 5)", (), "1 (first (row))", "5")
        self.tell("def f = ?1\ndef g = 2", (), "1 (+ 1 1)", "2")

    def test_several_at_once(self):
        self.tell("def f (x num) = (+ (* ?1 ?2) (- ?3 x))", ("2",), "3 9; 1 (+ x 1); 2 ?8", "<2>",
                  [("gap", 8, around(x="2")), ("op", "*", ("num", 3), ("left", 0)),
                   ("op", "+", ("left", 1), ("num", 7))], 2)
        self.tell("def f (x num) = (+ (* ?1 ?2) (- ?3 x))", ("2",), "3 9; 1 (+ x 1); 2 x", "13", many=4)


class Told(unittest.TestCase):
    def test_a_fault_that_comes(self):
        for text, terms in (("def f = (: 1 ?1)", "1 0"), ("def f = (: ?1 ?2)", "2 0"),
                            ("def f = (first ?1)", "1 (row)"), ("def f = (others ?1)", "1 (row)"),
                            ("def f = ?1", "1 (: 1 0)"),
                            ("def f = (row ?1 ?2)", "2 (first (row))"), ("def f = (if ?1 (: 1 0) 1)", "1 1"),
                            ("def f = (fold ?1 x y 1 (: y x))", "1 (row 1 0)"),
                            ("def f = (match ?1 (t x 1) (u (first (row))) (w x y 1))", "1 (u:)"),
                            ("def f = (let x (: 5 ?1) 7)", "1 (- 3 3)")):
            self.assertEqual(ask(text, (), terms), ("fault",), text)
        self.assertEqual(ask("def f = (if ?1 (: 1 0) 1)", (), "1 0")[:2], ("sheet", (("num", 1), ())))

    def test_filled_with_none(self):
        for program, inputs in runs_to_do(151, 300, gap=0.25):
            told = outcome(run, program, inputs, 200)
            if told[0] == "told" and told[1][0] == "sheet":
                self.assertEqual(sheet_filled(program, told[1][1], (), (), 1), ("sheet", told[1][1], 0))

    def test_kinds_that_are_put_change_nothing(self):
        text = "def f (x ?1) = (let z (+ x 1) ?1)\ndef g (y (row ?2)) = (+ (long y) (+ ?2 (fold y a b 0 a)))"
        program, sheet = begun(text, "[4 5]")
        kept = sheet_filled(program, sheet, (), fillings("2 num", read_kind), 1)
        self.assertEqual(kept, ("sheet", sheet, 0))
        self.assertEqual(ask(text, ["[4 5]"], "2 9", "1 num; 2 num"), ask(text, ["[4 5]"], "2 9"))

    def test_refused(self):
        text = "def f (x ?3) = (+ x 1)\ndef g = (row (+ ?1 ?2) ?4)"
        program, sheet = begun(text)
        for terms, kinds, refusal, number in (
            ("9 1", "", NoGap, 9), ("1 1; 3 1", "", NoGap, 3), ("", "1 num", NoGap, 1), ("1 1; 2 1; 1 2", "", Twice, 1),
            ("1 ?2", "", Twice, 2), ("1 (+ ?7 ?7)", "", Twice, 7), ("9 1", "3 num; 3 num", Twice, 3),
            ("9 1", "8 num", NoGap, 8), ("1 1; 9 1; 1 1", "3 num", NoGap, 9),
        ):
            pairs = fillings(terms, read_term), fillings(kinds, read_kind)
            for most in (1, 200):
                with self.assertRaises(refusal) as taken:
                    sheet_filled(program, sheet, *pairs, most)
                self.assertEqual(list(vars(taken.exception).values()), [number])

    def test_refused_ahead_of_too_many_doings(self):
        program, sheet = begun("def f = (row ?1 ?2)")
        long = read_term("(+ 1 (+ 1 1))")
        with self.assertRaises(TooLong):
            sheet_filled(program, sheet, ((1, long),), (), 1)
        with self.assertRaises(NoGap):
            sheet_filled(program, sheet, ((1, long), (3, long)), (), 1)
        with self.assertRaises(Twice):
            sheet_filled(program, sheet, ((1, long), (2, ("gap", 5)), (2, long)), (), 1)
        with self.assertRaises(NoGap):
            sheet_filled(program, sheet, ((1, long),), ((1, "num"),), 1)

    def test_as_many_doings_as_most(self):
        text = "def f = (row ?1 (+ ?2 1) (fold ?3 x y 0 (+ x y)))"
        terms = "1 (* 2 (- 5 2)); 2 (long (row)); 3 (row 7 8)"
        told = ask(text, (), terms, most=8)
        self.assertEqual(told, ("sheet", (read_thing("[6 1 15]"), ()), 8))
        for most in range(1, 8):
            with self.assertRaises(TooLong) as taken:
                ask(text, (), terms, most=most)
            self.assertEqual(taken.exception.most, most)

    def test_doings_of_the_run_are_not_counted_again(self):
        text = "def f = (fold (row 1 2 3 4 5 6) x y ?1 (+ 1 (* x x)))"
        self.assertEqual(ask(text, (), "1 (+ 1 1)", most=1), ("sheet", (("num", 37), ()), 1))

    def test_faults_ahead_of_too_many(self):
        self.assertEqual(ask("def f = (row ?1 ?2 ?3)", (), "1 (+ 1 1); 2 (: 1 0); 3 (+ 1 (+ 1 1))", most=1), ("fault",))
        with self.assertRaises(TooLong):
            ask("def f = (row ?1 ?2 ?3)", (), "1 (+ 1 1); 3 (: 1 0); 2 (+ 1 1)", most=1)

    def test_nothing_handed_in_is_changed(self):
        program, sheet = begun("def f (x num) = (if ?1 (+ x ?2) ?3)", "4")
        terms = fillings("1 1; 2 (* x x)", read_term)
        kept = repr((program, sheet, terms))
        first = sheet_filled(program, sheet, terms, (), 9)
        self.assertEqual(sheet_filled(program, sheet, terms, (), 9), first)
        self.assertEqual(repr((program, sheet, terms)), kept)


class Great(unittest.TestCase):
    def test_deeper_than_python_goes(self):
        term = ("gap", 1)
        for k in range(3000):
            term = ("row", (term,))
        program = ((), (("f", (), ("row", (term, ("first", ("gap", 2))))),))
        sheet = run(program, (), 1)[1]
        told = sheet_filled(program, sheet, ((2, ("row", (with_gaps_put(term, {1: ("gap", 3)}),))),), (), 1)
        self.assertEqual((told[0], told[1][1], told[2]), ("sheet", (("gap", 1, ()), ("gap", 3, ())), 1))
        told = sheet_filled(program, sheet, ((1, ("num", 5)),), (), 1)
        self.assertEqual(thing_text(told[1][0]), "[" * 3001 + "5" + "]" * 3000 + " <1>]")

    def test_things_of_many_things(self):
        row = ("row", tuple(("num", n) for n in range(19000)))
        program = read_program("def f (r (row num)) = (let x (more ?1 r) (+ (long x) (+ (first x) ?2)))")
        sheet = run(program, [row], 9)[1]
        told = sheet_filled(program, sheet, fillings("1 7; 2 (first (others x))", read_term), (), 9)
        self.assertEqual(told, ("sheet", (("num", 19008), ()), 4))


def told_of(program, inputs, steps):
    """What a run and then a sheet filled step by step come to, with all doings; None where one is refused."""
    told = outcome(run, program, inputs, MANY)
    many = 0
    for terms, kinds in list(steps) + [(None, None)]:
        if told[0] != "told":
            return None
        if told[1] == ("fault",):
            return ("fault",)
        many += told[1][2]
        sheet = told[1][1]
        if terms is None:
            break
        told = outcome(sheet_filled, program, sheet, terms, kinds, MANY)
        program = filled(program, terms, kinds)
    return ("sheet", sheet, many)


class BothWays(unittest.TestCase):
    """Filled and then run; run, and the sheet filled then, by pieces and in any order."""

    def in_steps(self, rand, terms, kinds):
        """Fillings by pieces, in any order."""
        steps = [((each,), ()) for each in terms] + [((), (each,)) for each in kinds]
        rand.shuffle(steps)
        while len(steps) > 1 and rand.randrange(2):
            (more, kinds_more), (others, kinds_others) = steps.pop(), steps.pop()
            steps.insert(0, (more + others, kinds_more + kinds_others))
        return steps

    def test_by_pieces(self):
        rand = seeded(161)
        seen = {}
        for program, inputs in runs_to_do(162, 1500, gap=0.25):
            # A filling may have its own gap again, but a gap is filled once here.
            terms, kinds = make_fillings(rand, program, some=0.8, gap=rand.choice((0, 0.3)))
            put = filled(program, terms, kinds)
            look(put)
            wanted = slow_run(put, inputs, MANY)
            if wanted[0] != "told":
                continue
            for steps in ([(terms, kinds)], self.in_steps(rand, terms, kinds), self.in_steps(rand, terms, kinds)):
                told = told_of(program, inputs, steps)
                if told is not None:
                    self.assertEqual(told, wanted[1], (program, inputs, steps))
                    word = wanted[1][0] + (" with rows" if wanted[1][1:] and wanted[1][1][1] else "")
                    seen[word, len(steps) > 1] = seen.get((word, len(steps) > 1), 0) + 1
        self.assertEqual(len(seen), 6, seen)
        self.assertGreater(min(seen.values()), 150, seen)

    def test_gaps_within_fillings(self):
        rand = seeded(163)
        done = 0
        for program, inputs in runs_to_do(164, 800, gap=0.2):
            terms, kinds = make_fillings(rand, program, some=0.9, gap=0.4, own=0.3)
            put = filled(program, terms, kinds)
            behind, kinds_behind = make_fillings(rand, put, some=0.7, gap=rand.choice((0, 0.2)))
            # The gaps within fillings filled already in them, and the others beside them.
            within = tuple((n, with_gaps_put(term, dict(behind))) for n, term in terms)
            stood = [n for n in gaps(program)[0] if n not in dict(terms)]
            beside = tuple(each for each in behind if each[0] in stood)
            whole = filled(program, within + beside, kinds + kinds_behind)
            self.assertEqual(whole, filled(put, behind, kinds_behind))
            look(whole)
            ways = [told_of(program, inputs, [(terms, kinds), (behind, kinds_behind)]),
                    told_of(program, inputs, [(within + beside, kinds + kinds_behind)]),
                    told_of(put, inputs, [(behind, kinds_behind)]), told_of(whole, inputs, [])]
            if None not in ways:
                self.assertEqual(ways, ways[:1] * 4)
                done += len(ways[0]) > 1 and behind != () and terms != ()
        self.assertGreater(done, 250)

    def test_by_noughts(self):
        for program, inputs in runs_to_do(165, 800, gap=0.25):
            terms, kinds = noughts(program)
            put = filled(program, terms, kinds)
            self.assertIs(look(put), True)
            self.assertEqual(gaps(put), ([], []))
            wanted = slow_run(put, inputs, MANY)
            told = told_of(program, inputs, [(terms, kinds)])
            if wanted[0] == "told" and told is not None:
                self.assertEqual(told, wanted[1])
                self.assertEqual(told[1:] and told[1][1], ())

    def test_things_keep_their_kinds(self):
        rand = seeded(168)
        closed = 0
        for program, inputs in runs_to_do(169, 600, gap=0.2):
            terms, kinds = make_fillings(rand, program, some=1)
            told = told_of(program, inputs, [(terms, kinds)])
            kind = last_kinds(filled(program, terms, kinds))[1]
            if told is not None and told[0] == "sheet" and "any" not in texts_in((kind,)):
                self.assertEqual(told[1][1], ())
                self.assertIs(is_of(program, told[1][0], kind), True)
                closed += 1
        self.assertGreater(closed, 200)

    def test_a_fault_stays_a_fault(self):
        rand = seeded(166)
        faults = 0
        for program, inputs in runs_to_do(167, 1500, gap=0.25):
            if outcome(run, program, inputs, MANY) == ("told", ("fault",)):
                put = filled(program, *make_fillings(rand, program, gap=rand.choice((0, 0.3))))
                self.assertIn(outcome(run, put, inputs, MANY), [("told", ("fault",)), ("TooLong", MANY)])
                faults += put != program
        self.assertGreater(faults, 50)


if __name__ == "__main__":
    unittest.main()
