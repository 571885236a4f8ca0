import unittest

from gapwork.desk import Desk
from gapwork.errors import BadText, Clash, NoName, NoRow, TooLong, Twice, WrongCount
from gapwork.filled import filled
from gapwork.kept import Kept
from gapwork.kinds import gap_kinds, last_kinds
from gapwork.papers import paper_holds
from gapwork.reader import read_kind, read_program, read_term
from gapwork.runs import run
from gapwork.search import searched
from gapwork.thingtexts import read_thing, thing_text
from gapwork.wants import meets, musts
from gapwork.writer import kind_text, program_text, term_text
from tests.helper import (make_fillings, make_of, outcome, runs_to_do, seeded, slow_kind_text, slow_musts,
                          slow_program_text, slow_run, slow_term_text, slow_thing_text, texts_in)

TEXT = """kind p (two num num)
kind k (t num) (u)
def f (x num) (q ?5) = (+ x ?3)
def g (a num) (r (row num)) = (row (* a a) (call f a ?1) (if ?2 (first r) 9))"""


class Asking(unittest.TestCase):
    def says(self, desk, row, wanted):
        self.assertEqual(desk.say(row), wanted, row)

    def refuses(self, desk, row, *wanted):
        """A row is refused, twice, and changes nothing."""
        before = desk.say("text"), desk.say("gaps")
        for again in range(2):
            self.assertEqual(outcome(desk.say, row), wanted, row)
            self.assertEqual((desk.say("text"), desk.say("gaps")), before, row)


class Rows(Asking):
    def test_run(self):
        desk = Desk(TEXT)
        self.says(desk, "run 3 [7 8]", "[9 <2> <4>] left 5 doings 2")
        self.says(desk, "fill 3 (* x 10)", "kept")
        self.says(desk, "run 3 [7 8]", "[9 33 <2>] left 3 doings 4")
        self.says(desk, "run 3 []", "[9 33 <2>] left 3 doings 4")
        desk.say("fill 1 (u:)")
        desk.say("fill 2 (- a 3)")
        self.says(desk, "run 3 []", "[9 33 9] left 0 doings 6")
        self.says(desk, "run 4 [7 8]", "[16 44 7] left 0 doings 7")
        self.says(desk, "run 4 []", "fault")

    def test_run_without_inputs(self):
        self.says(Desk("def f = (row 1 (+ 1 1))"), "run", "[1 2] left 0 doings 1")
        self.says(Desk("def f = ?1"), "run", "<0> left 1 doings 0")
        self.says(Desk("kind k (t num) (u)\ndef f = (t: (- 0 1))"), "run", "(t 999999) left 0 doings 1")
        self.says(Desk("def f = (first (row))"), "run", "fault")

    def test_run_of_tags_and_rows(self):
        desk = Desk("kind p (two num num)\ndef f (x p) (y (row p)) = (more x y)")
        self.says(desk, "run (two 1 2) [(two 3 4) (two 5 6)]", "[(two 1 2) (two 3 4) (two 5 6)] left 0 doings 1")

    def test_fill(self):
        desk = Desk(TEXT)
        self.says(desk, "fill 3 (+ ?3 (let y x (* y ?99)))", "kept")
        self.says(desk, "fill 99 7", "kept")
        self.says(desk, "fill 3 x", "kept")
        self.assertIn("(+ x (+ x (let y x (* y 7))))", desk.say("text"))

    def test_kind(self):
        desk = Desk("def f (x ?1) (y (row ?2)) = ?1")
        self.says(desk, "kind 1 (row ?1)", "kept")
        self.says(desk, "kind 2 num", "kept")
        self.says(desk, "text", "def f (x (row ?1)) (y (row num)) = ?1")
        self.says(desk, "kind 1 (row (row ?0))", "kept")
        self.says(desk, "text", "def f (x (row (row (row ?0)))) (y (row num)) = ?1")

    def test_back(self):
        desk = Desk("def f (x ?1) = (+ x ?1)")
        texts = [desk.say("text")]
        for row in ("fill 1 (* ?2 ?3)", "kind 1 num", "fill 3 x", "fill 2 2"):
            self.says(desk, row, "kept")
            texts.append(desk.say("text"))
        self.says(desk, "run 3", "9 left 0 doings 2")
        while len(texts) > 1:
            self.says(desk, "text", texts.pop())
            self.says(desk, "back", "kept")
        self.says(desk, "text", texts[0])
        self.refuses(desk, "back", "NoGap", -1)
        self.refuses(desk, "back", "NoGap", -1)

    def test_gaps(self):
        self.says(Desk("def f = 1"), "gaps", "none")
        self.says(Desk("def f (x ?1) = 1"), "gaps", "none")
        self.says(Desk(TEXT), "gaps", "1 '0 | 2 num | 3 num")
        self.says(Desk("def f = ?1"), "gaps", "1 '0")
        self.says(Desk("kind k (u)\ndef f (x k) = (match x (u (row ?10 (row ?9 2))))"), "gaps", "9 num | 10 (row num)")
        self.says(Desk("def f (x (row ?1)) = (let y ?2 (row ?0 x))"), "gaps", "0 (row '0) | 2 '1")

    def test_letters_of_many_figures(self):
        desk = Desk("def f = ?0")
        names = [a + b for a in "abcdefghklmno" for b in "abcdefghij"]
        for n, name in enumerate(names):
            self.says(desk, "gaps", f"0 '{n}")
            desk.say(f"fill 0 (let {name} (row) ?0)")
        self.says(desk, "gaps", "0 '130")
        desk.say("fill 0 (row ?0 bc)")
        self.says(desk, "gaps", "0 (row '12)")

    def test_must(self):
        desk = Desk("def f (x num) (r (row num)) = (row (+ x ?1) (let y ?2 7) (- ?3 1))")
        self.says(desk, "must 1 3 [] to [5 7 8]", "2")
        self.says(desk, "must 2 3 [] to [5 7 8]", "any")
        self.says(desk, "must 3 3 [4 5] to [5 7 8]", "9")
        self.says(desk, "must 3 3 [4 5] to [5 8 8]", "never")
        desk.say("fill 1 (* ?1 2)")
        self.says(desk, "must 1 3 [] to [5 7 8]", "open")
        self.says(desk, "must 1 3 [] to [5 8 8]", "never")

    def test_must_of_several_and_of_none(self):
        desk = Desk("kind k (t num) (u)\ndef f (x num) = (t: ?1)\n"
                    "def g (x num) = (row (call f x) (if x (u:) (t: ?2)) (call f 1))")
        self.says(desk, "must 1 3 to [(t 5) (u) (t 6)]", "5 | 6")
        self.says(desk, "must 2 3 to [(t 5) (u) (t 6)]", "none")
        self.says(desk, "must 2 0 to [(t 5) (t 4) (t 6)]", "4")
        self.says(desk, "must 2 0 to [(t 5) (u) (t 6)]", "never")
        desk = Desk("def f = (let x ?1 (+ ?2 1))\ndef g = (row (call f) (let y ?3 5))")
        self.says(desk, "must 3 to [5 5]", "open")
        desk = Desk("def f (x num) = (let y (+ ?1 1) 5)\ndef g = (row (+ 0 (call f 1)) (call f 2) (- ?2 0))")
        self.says(desk, "must 1 to [5 5 3]", "any | any")
        self.says(desk, "must 2 to [5 5 3]", "3")

    def test_must_of_rows_and_tags(self):
        desk = Desk("kind p (two num num)\ndef f (x p) = (more x ?1)")
        self.says(desk, "must 1 (two 1 2) to [(two 1 2) (two 3 4)]", "[(two 3 4)]")
        self.says(desk, "must 1 (two 1 2) to [(two 1 2)]", "[]")
        self.says(desk, "must 1 (two 1 2) to []", "never")

    def test_must_where_the_run_is_a_fault(self):
        desk = Desk("def f (x num) = (row ?1 (: 1 x))")
        self.says(desk, "must 1 0 to [1 1]", "never")
        self.says(desk, "must 1 1 to [1 0]", "1")

    def test_text(self):
        self.says(Desk(TEXT), "text", TEXT.replace("\n", " ; "))
        self.says(Desk("def f = 1"), "text", "def f = 1")


class Made(Asking):
    def test_refused(self):
        for text, wanted in (
            ("", ("BadText", 0)), ("def f = ", ("BadText", 0)), ("def f = 1\n", ("BadText", 1)),
            ("kind k (t)", ("BadText", 1)), ("kind k (t)\ndef f = (t: 01)", ("BadText", 1)),
            ("def f = q", ("NoName", "q")), ("def f (x num) (x num) = 1", ("Twice", "x")),
            ("def f = (row ?1 ?1)", ("Twice", "?")), ("def f = 1\ndef g = (call f 1)", ("WrongCount", "f")),
            ("def f = (+ 1 (row))", ("Clash",)), ("def f = (let x ?1 (more x x))", ("Clash",)),
            ("def f = (+ q (row", ("BadText", 0)), ("def f = (+ q (row))", ("NoName", "q")),
        ):
            self.assertEqual(outcome(Desk, text), wanted, text)
        for text, refusal in (("", BadText), ("def f = q", NoName), ("def f = (first 1)", Clash),
                              ("def f = (row ?1 ?1)", Twice), ("def f = 1\ndef g = (call f 1)", WrongCount)):
            with self.assertRaises(refusal):
                Desk(text)


class Refused(Asking):
    def test_no_row(self):
        desk = Desk(TEXT)
        for row in ("", " ", "ran", "Run", "runs 3 [7]", "3", "(run)", "[]", "gaps 1", "back 1", "text 1", "gaps gaps",
                    "back ()", "text (", "run3 [7]", "run(3) [7]", "fill", "fill 1", "fill ?1 5", "fill 100 5",
                    "fill 01 5", "fill 00 5", "fill x 5", "fill -1 5", "fill (1) 5", "fill 1a 5", "kind", "kind 5",
                    "kind ?5 num", "kind 100 num", "kind 05 num", "must", "must 1", "must 1 to", "must to 5",
                    "must 1 3 []", "must 1 3 [] to", "must 1 3 [] 5", "must 1 3 [] to 5 6", "must 1 5", "must 100 to 5",
                    "must 01 to 5", "must x 3 [] to [5]", "must 1 3 [] TO [5]", "must 1 3 [] (to) [5]", "fill1 5",
                    "run\n3 [7]", "\ngaps", "gaps\n", "must 1 3 []to [5]"):
            self.refuses(desk, row, "NoRow")
        with self.assertRaises(NoRow):
            desk.say("none")

    def test_blanks(self):
        desk = Desk(TEXT)
        for row in (" gaps", "gaps ", "  gaps", "gaps  ", " run 3 [7]", "run 3 [7] ", "run  3 [7]", "run 3  [7]",
                    "run ", "back ", " back", "text ", " text", " fill 1 5", "fill  1 5", "fill 1 ", "fill 1  5",
                    "fill 1 5 ", "kind  5 num", "kind 5 ", " kind 5 num", "kind 5  num", "kind 5 num ",
                    "must  1 3 [] to [5]", "must 1  3 [] to [5]", "must 1 3  [] to [5]", "must 1 3 []  to [5]",
                    "must 1 3 [] to  [5]", "must 1 3 [] to [5] ", " must 1 3 [] to [5]", "must 1 3 [] to "):
            self.refuses(desk, row, "NoRow")
        # Within brackets such a text's fault is its own.
        for row in ("run 3 [7  8]", "run 3 [ 7]", "run 3 [7 ]", "run 3 [ ]", "run 3 ( u)", "fill 1 (+ 1  2)",
                    "fill 1 ( u:)", "fill 1 (u: )", "kind 5 (row  num)", "kind 5 (row num )",
                    "must 1 3 [7  8] to [5]", "must 1 3 [] to [5  5]", "run 3 [7 [8  9]]", "run [ 3",
                    "run 3 [7  8", "fill 1 (+ 1  2"):
            self.refuses(desk, row, "BadText", 0)

    def test_bad_texts(self):
        desk = Desk(TEXT)
        for row in ("run 3 [7", "run 3 7]", "run 3 (t", "run 03 [7]", "run 3 [07]", "run x [7]", "run 3 ()",
                    "run 3 {7}", "run 3 [7][8]", "run 3 [7](u)", "run ?1 [7]", "run 3 [to]", "run 1000000 [7]",
                    "run 3 <x>",
                    "run 3 (t 1]", "run -1 []", "fill 1 5 6", "fill 1 (u)", "fill 1 (u:", "fill 1 u:)", "fill 1 num",
                    "fill 1 ?100", "fill 1 (+ 1)", "fill 1 [5]", "fill 1 (to)", "kind 5 num num",
                    "kind 5 (row)", "kind 5 (row num", "kind 5 5", "kind 5 ?100", "kind 5 '100", "kind 5 row",
                    "must 1 3 7] to [5]", "must 1 to 3 [] to [5]", "must 1 3 [] to to", "must 1 3 [] to (5)",
                    "must 1 3 [] to 05", "must 1 3x [] to [5]", "run 3\n [7]", "run 3 [7\n8]", "fill 1 5\n"):
            self.refuses(desk, row, "BadText", 0)
        # A name may be called so.
        self.refuses(desk, "fill 1 to", "NoName", "to")
        # Within a bracket that isn't closed no word stands.
        self.refuses(desk, "must 1 3 [7 to [5]", "NoRow")

    def test_counts_kinds_and_letters(self):
        desk = Desk(TEXT)
        for row in ("run", "run 3", "run 3 [7] 8", "run [7] 3", "run 3 7", "run (u) [7]", "run 3 [[7]]", "run 3 [(u)]",
                    "run <0> [7]", "run 3 [<0>]", "run 3 [7 <0>]", "run 3 (no)", "must 1 to [5]", "must 1 3 to [5]",
                    "must 1 3 [] 4 to [5]", "must 1 [] 3 to [5]", "must 1 3 [] to 5", "must 1 3 [] to [[5]]",
                    "must 1 3 [] to [<0>]", "must 1 3 [] to <0>", "must 1 3 [] to (u)", "must 1 <1> [] to [5]",
                    "kind 5 '0", "kind 5 (row '7)", "kind 5 (row (row '99))"):
            self.refuses(desk, row, "NoRow")

    def test_tags_of_the_wrong_form(self):
        desk = Desk("kind p (two num num)\nkind k (t num) (u)\ndef f (x k) = (match x (t y y) (u ?1))")
        for row in ("run (t)", "run (u 1)", "run (t 1 2)", "run (two 1 2)", "run (t (u))", "run (t <0>)", "run (no)"):
            self.refuses(desk, row, "NoRow")
        self.says(desk, "run (t 5)", "5 left 0 doings 1")

    def test_letters_of_the_last_def(self):
        desk = Desk("def f (x ?1) = 5")
        for row in ("run 3", "run []", "run", "must 1 3 to 5"):
            self.refuses(desk, row, "NoRow")
        desk.say("kind 1 (row ?1)")
        # The row without things is of each row's kind, but it isn't known yet which is meant.
        for row in ("run 3", "run []", "must 1 [] to 5"):
            self.refuses(desk, row, "NoRow")
        desk.say("kind 1 num")
        self.says(desk, "run []", "5 left 0 doings 0")
        # Letters of the last def's own kind hinder a must alone.
        desk = Desk("def f (x num) = ?1")
        self.says(desk, "run 3", "<0> left 1 doings 0")
        for row in ("must 1 3 to 5", "must 1 3 to []", "must 2 3 to 5"):
            self.refuses(desk, row, "NoRow")
        desk = Desk("def f (x num) = (row ?1)")
        self.refuses(desk, "must 1 3 to []", "NoRow")
        desk.say("fill 1 (+ ?1 1)")
        self.says(desk, "must 1 3 to [5]", "4")

    def test_gaps_that_are_not_there(self):
        desk = Desk(TEXT)
        self.refuses(desk, "fill 5 1", "NoGap", 5)
        self.refuses(desk, "fill 0 1", "NoGap", 0)
        self.refuses(desk, "fill 99 1", "NoGap", 99)
        self.refuses(desk, "kind 1 num", "NoGap", 1)
        self.refuses(desk, "must 5 3 [] to [9 1 9]", "NoGap", 5)
        self.refuses(desk, "back", "NoGap", -1)
        desk.say("fill 2 1")
        self.refuses(desk, "fill 2 1", "NoGap", 2)
        self.refuses(desk, "must 2 3 [] to [9 1 9]", "NoGap", 2)
        desk.say("back")
        self.refuses(desk, "back", "NoGap", -1)

    def test_what_19_10_and_11_tell(self):
        desk = Desk(TEXT)
        for row, wanted in (
            ("fill 1 ?2", ("Twice", 2)), ("fill 1 (row ?7 ?7)", ("Twice", 7)), ("fill 1 (row ?1 ?1)", ("Twice", 1)),
            ("fill 1 q", ("NoName", "q")), ("fill 3 a", ("NoName", "a")), ("fill 1 (no:)", ("NoName", "no")),
            ("fill 1 (call g 1 r)", ("NoName", "g")), ("fill 1 (call f 1)", ("WrongCount", "f")),
            ("fill 1 (t: 1 2)", ("WrongCount", "t")), ("fill 1 (match (u:) (u 1))", ("WrongCount", "match")),
            ("fill 1 (match (u:))", ("NoName", "match")), ("fill 1 (fold r x x 1 1)", ("Twice", "x")),
            ("fill 2 r", ("Clash",)), ("fill 3 (row)", ("Clash",)), ("fill 1 (let y ?1 (more y y))", ("Clash",)),
            ("kind 5 no", ("NoName", "no")), ("fill 1 (first 5)", ("Clash",)),
        ):
            self.refuses(desk, row, *wanted)
        desk = Desk("def f (x ?1) (y ?2) = (+ x 1)")
        self.refuses(desk, "kind 1 (row num)", "Clash")
        self.refuses(desk, "kind 1 ?2", "Twice", 2)
        self.refuses(desk, "kind 2 (row ?1)", "Twice", 1)

    def test_too_long(self):
        tens = " ".join("0123456789")
        desk = Desk("def f (r (row num)) (n (row num)) = (fold r a b (- ?1 1) (fold n c d b (let q (* a c) d)))")
        desk.say("fill 1 91")
        self.says(desk, f"run [{tens}] [{tens[:17]}]", "90 left 0 doings 191")
        with self.assertRaises(TooLong) as taken:
            desk.say(f"run [{tens}] [{tens}]")
        self.assertEqual(taken.exception.most, 200)
        self.refuses(desk, f"run [{tens}] [{tens}]", "TooLong", 200)
        desk.say("back")
        self.refuses(desk, f"must 1 [{tens}] [{tens}] to 7", "TooLong", 200)
        self.says(desk, f"must 1 [] [{tens}] to 7", "8")
        # 200 doings are none too many.
        desk = Desk("def f (r (row num)) (s (row num)) = (fold r a b 0 (fold s c d b c))")
        self.says(desk, f"run [{tens}] [{tens} {tens[:17]}]", "8 left 0 doings 200")
        self.refuses(desk, f"run [{tens}] [{tens} {tens}]", "TooLong", 200)


class Order(Asking):
    """Of two refusals that are due at once the first one comes."""

    def test_no_row_ahead_of_bad_texts(self):
        desk = Desk(TEXT)
        for row in ("run 03 ", "run  [7", "fill 100 )", "fill 01 (u)", "kind 100 5", "must 1 [7 5", "must 1 03 to",
                    "must 01 03 to 05", "gaps 05", "back )", "run (t]  5"):
            self.refuses(desk, row, "NoRow")

    def test_bad_texts_ahead_of_counts_kinds_and_letters(self):
        desk = Desk(TEXT)
        for row in ("run 03", "run [7", "run (u) 03", "run [] [] 05", "must 1 03 to [5]", "must 1 to 05",
                    "must 1 [] 3 to (5)", "must 9 to (5)"):
            self.refuses(desk, row, "BadText", 0)
        desk = Desk("def f (x ?1) = ?1")
        for row in ("run 03", "must 1 03 to 5", "must 1 3 to 05", "kind 1 (row '0", "kind 9 '01"):
            self.refuses(desk, row, "BadText", 0)

    def test_bad_texts_ahead_of_gaps(self):
        desk = Desk(TEXT)
        for row in ("fill 9 (u)", "fill 1 (row ?2 03)", "kind 9 5", "must 9 03 [] to [5]"):
            self.refuses(desk, row, "BadText", 0)

    def test_counts_kinds_and_letters_ahead_of_gaps(self):
        desk = Desk(TEXT)
        for row in ("must 9 to [5]", "must 9 3 3 to [5]", "must 9 3 [] to 5", "must 9 3 [] to [<0>]", "kind 9 '0",
                    "kind 9 (row '0)"):
            self.refuses(desk, row, "NoRow")
        desk = Desk("def f (x num) = (let y ?2 ?1)")
        self.refuses(desk, "must 9 3 to 5", "NoRow")

    def test_19_ahead_of_10_ahead_of_11(self):
        desk = Desk(TEXT)
        self.refuses(desk, "fill 9 q", "NoGap", 9)
        self.refuses(desk, "fill 1 (row q ?2)", "Twice", 2)
        self.refuses(desk, "fill 2 (+ (row) q)", "NoName", "q")
        self.refuses(desk, "fill 2 (row ?2 (first 1) ?3)", "Twice", 3)
        self.refuses(desk, "kind 9 no", "NoGap", 9)
        desk = Desk("def f (x ?1) (y ?2) = (+ x y)")
        self.refuses(desk, "kind 1 (row no)", "NoName", "no")
        self.refuses(desk, "kind 1 (row ?2)", "Twice", 2)

    def test_gaps_ahead_of_too_long(self):
        tens = " ".join("0123456789")
        desk = Desk("def f (r (row num)) = (fold r a b ?1 (fold r c d b (+ d (* a c))))")
        self.refuses(desk, f"must 1 [{tens}] to 7", "TooLong", 200)
        self.refuses(desk, f"must 2 [{tens}] to 7", "NoGap", 2)
        self.refuses(desk, f"must 2 [{tens}] to []", "NoRow")
        self.refuses(desk, f"run [{tens}] 5", "NoRow")
        self.refuses(desk, f"run [{tens}] 05", "BadText", 0)


class Apart(Asking):
    def test_two_by_turns(self):
        one, other = Desk(TEXT), Desk(TEXT)
        first = one.say("text")
        one.say("fill 2 1")
        self.says(other, "text", first)
        other.say("kind 5 k")
        other.say("fill 3 (* x 2)")
        self.assertNotEqual(one.say("text"), other.say("text"))
        one.say("fill 3 (* x 2)")
        one.say("kind 5 k")
        self.refuses(one, "fill 2 1", "NoGap", 2)
        other.say("fill 2 1")
        self.assertEqual(one.say("text"), other.say("text"))
        one.say("back")
        one.say("back")
        one.say("back")
        self.says(one, "text", first)
        self.refuses(one, "back", "NoGap", -1)
        self.says(other, "back", "kept")

    def test_in_two_orders(self):
        rows = ("fill 3 (- x ?8)", "fill 1 (u:)", "fill 2 (long r)", "kind 5 k")
        one, other = Desk(TEXT), Desk(TEXT)
        for row in rows:
            self.says(one, row, "kept")
        for row in rows[::-1]:
            self.says(other, row, "kept")
        for row in ("text", "gaps", "run 3 [7 8]", "run 3 []", "must 8 3 [7] to [9 4 7]"):
            self.assertEqual(one.say(row), other.say(row))

    def test_asked_again(self):
        desk = Desk(TEXT)
        rows = ("gaps", "text", "run 3 [7 8]", "must 1 3 [] to [9 4 7]")
        first = [desk.say(row) for row in rows]
        for again in range(2):
            self.assertEqual([desk.say(row) for row in rows], first)

    def test_more_by_its_fillings_than_may_be_handed_in(self):
        desk = Desk("def f = ?1")
        desk.say("fill 1 (let x (row 1 ?1) (row x (row 2)))")
        ahead, behind = "(let y (row (row (row ", "))) (first (first (first y))))"
        for k in range(300):
            desk.say(f"fill 1 {ahead}?1{behind}")
        self.says(desk, "gaps", "1 num")
        self.says(desk, "text", f"def f = (let x (row 1 {ahead * 300}?1{behind * 300}) (row x (row 2)))")
        self.refuses(desk, "run", "TooLong", 200)
        for k in range(250):
            desk.say("back")
        desk.say("fill 1 5")
        self.says(desk, "run", "[[1 5] [2]] left 0 doings 150")


class Whole(Asking):
    """From texts alone to the desk's answers, and by the functions: the same."""

    def run_row(self, told):
        if told[0] != "told":
            return told
        if told[1] == ("fault",):
            return ("told", "fault")
        word, (thing, rows), many = told[1]
        return ("told", f"{slow_thing_text(thing)} left {len(rows)} doings {many}")

    def must_row(self, told, n):
        if told[0] != "told":
            return told
        if told[1][0] != "musts":
            return ("told", told[1][0])
        texts = ["any" if thing is None else slow_thing_text(thing) for gap, around, thing in told[1][1] if gap == n]
        return ("told", " | ".join(texts) or "none")

    def ask_all(self, rand, desk, program, inputs, seen):
        self.assertEqual(desk.say("text"), slow_program_text(program).replace("\n", " ; "))
        kinds = {n: kind for n, (names, kind) in gap_kinds(program).items()}
        texts = [f"{n} {slow_kind_text(kinds[n])}" for n in sorted(kinds)]
        self.assertEqual(desk.say("gaps"), " | ".join(texts) or "none")
        given = "".join(" " + slow_thing_text(each) for each in inputs)
        told = outcome(desk.say, f"run{given}")
        self.assertEqual(told, self.run_row(slow_run(program, inputs, 200)))
        self.assertEqual(told, self.run_row(outcome(run, program, inputs, 200)))
        kind = last_kinds(program)[1]
        if "any" in texts_in((kind,)):
            return
        came = outcome(run, program, inputs, 200)
        closed = came[0] == "told" and came[1][0] == "sheet" and "left" not in texts_in(came[1][1][0])
        answer = came[1][1][0] if closed and rand.random() < 0.7 else make_of(rand, program, kind)
        for n in kinds:
            told = outcome(desk.say, f"must {n}{given} to {slow_thing_text(answer)}")
            self.assertEqual(told, self.must_row(slow_musts(program, [(inputs, answer)], 200), n))
            self.assertEqual(told, self.must_row(outcome(musts, program, [(inputs, answer)], 200), n))
            word = told[1] if told[1] in ("never", "open", "none", 200) else "things"
            seen[word] = seen.get(word, 0) + 1

    def test_by_seeds(self):
        rand = seeded(211)
        seen = {}
        for program, inputs in runs_to_do(212, 250, gap=0.25, size=18):
            desk = Desk(slow_program_text(program))
            programs = [program]
            for step in range(4):
                self.ask_all(rand, desk, programs[-1], inputs, seen)
                if len(programs) > 1 and rand.random() < 0.25:
                    programs.pop()
                    self.assertEqual(desk.say("back"), "kept")
                    continue
                terms, kinds = make_fillings(rand, programs[-1], some=0.6, gap=0.3, own=0.3)
                for n, term in terms:
                    self.assertEqual(desk.say(f"fill {n} {slow_term_text(term)}"), "kept")
                    programs.append(filled(programs[-1], ((n, term),), ()))
                for n, kind in kinds:
                    self.assertEqual(desk.say(f"kind {n} {slow_kind_text(kind)}"), "kept")
                    programs.append(filled(programs[-1], (), ((n, kind),)))
        self.assertGreater(min(seen.values()), 20, seen)
        self.assertGreaterEqual(len(seen), 4, seen)

    def test_from_a_text_to_a_found_filling(self):
        text = "def f (x num) (r (row num)) = (+ x ?1)"
        desk, program = Desk(text), read_program(text)
        pairs = (("3 [1 2]", "5"), ("4 [5 7]", "11"))
        wants = tuple((tuple(read_thing(each) for each in given.split(" ", 1)), read_thing(answer))
                      for given, answer in pairs)
        told = musts(program, wants, 200)[1]
        self.assertEqual([thing_text(thing) for n, around, thing in told],
                         [desk.say(f"must 1 {given} to {answer}") for given, answer in pairs])
        word, term, size, rows = searched(program, 1, told, (0, 1), 5, 150)
        self.assertEqual((word, term_text(term), size), ("found", "(first (others r))", 3))
        self.assertIs(paper_holds(program, 1, told, (0, 1), size - 1, rows), True)
        self.assertTrue(all(meets(program, each, term, 200) for each in told))
        self.assertEqual(desk.say(f"fill 1 {term_text(term)}"), "kept")
        kept = Kept(program, wants[0][0], 200)
        self.assertEqual(kept.fill(((1, term),), ()), 3)
        for (given, answer), (inputs, thing) in zip(pairs, wants):
            self.assertEqual(desk.say(f"run {given}"), f"{answer} left 0 doings 3")
            self.assertEqual(run(kept.program(), inputs, 200), ("sheet", (thing, ()), 3))
        self.assertEqual(desk.say("text"), program_text(kept.program()))

    def test_texts_read_and_written(self):
        for text in ("num", "(row '7)", "?12", "(row (row k))"):
            self.assertEqual(kind_text(read_kind(text)), text)
        for text in ("(row 1 (t: x ?3))", "(match x (t a b (+ a b)))"):
            self.assertEqual(term_text(read_term(text)), text)


if __name__ == "__main__":
    unittest.main()
