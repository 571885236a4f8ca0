import unittest

from gapwork.errors import TooLong
from gapwork.filled import filled
from gapwork.kinds import look
from gapwork.programs import gaps
from gapwork.reader import read_program, read_term
from gapwork.runs import run
from gapwork.terms import gaps_in
from gapwork.thingtexts import read_thing
from gapwork.wants import meets, musts
from tests.helper import (make_fillings, make_of, outcome, runs_to_do, seeded, slow_all_kinds, slow_musts, texts_in,
                          with_letters)

KINDS = "kind k (t num) (u) (w (row num) num)\n"
NEVER, OPEN = ("never", 0), ("open", 0)


def around(text):
    """The names at hand with their things, by words x=THING."""
    return tuple((word.split("=")[0], read_thing(word.split("=")[1])) for word in text.split(";") if word)


def must(n, text, thing=None):
    return (n, around(text), None if thing is None else read_thing(thing))


def want_of(text):
    """A want by its text: things, a `to`, the answer, parted by single blanks."""
    *inputs, to, answer = text.split(" ")
    assert to == "to"
    return tuple(read_thing(each.replace("_", " ")) for each in inputs), read_thing(answer.replace("_", " "))


def ask(text, *wants, most=200):
    program = read_program(KINDS + text)
    assert look(program)
    return musts(program, tuple(want_of(each) for each in wants), most)


class Asking(unittest.TestCase):
    def tell(self, text, want, *wanted):
        self.assertEqual(ask(text, want), ("musts", list(wanted)), (text, want))

    def word(self, text, want, wanted):
        self.assertEqual(ask(text, want), wanted, (text, want))


class Wanted(Asking):
    def test_numbers(self):
        self.tell("def f = (+ 2 3)", "to 5")
        self.word("def f = (+ 2 3)", "to 6", NEVER)
        self.tell("def f (x num) = (row x ?1)", "3 to [3_4]", must(1, "x=3", "4"))
        self.word("def f (x num) = (row x ?1)", "3 to [4_4]", NEVER)

    def test_rows(self):
        text = "def f = (row ?1 7 ?2)"
        self.tell(text, "to [5_7_6]", must(1, "", "5"), must(2, "", "6"))
        for other in ("[]", "[5]", "[5_7]", "[5_7_6_5]", "[5_6_6]"):
            self.word(text, f"to {other}", NEVER)
        self.tell("def f = (row)", "to []")
        self.word("def f = (row)", "to [1]", NEVER)
        self.tell("def f = (row (row ?1) (row))", "to [[5]_[]]", must(1, "", "5"))
        self.word("def f = (row (row ?1) (row))", "to [[5]_[1]]", NEVER)

    def test_tags(self):
        text = "def f = (w: (row ?1) ?2)"
        self.tell(text, "to (w_[5]_6)", must(1, "", "5"), must(2, "", "6"))
        for other in ("(u)", "(t_5)", "(w_[]_6)", "(w_[5_5]_6)"):
            self.word(text, f"to {other}", NEVER)
        self.tell("def f = (u:)", "to (u)")
        self.word("def f = (u:)", "to (t_1)", NEVER)
        self.word("def f = (t: 3)", "to (t_4)", NEVER)

    def test_sums(self):
        for text, answer, wanted in (
            ("(+ ?1 5)", 12, 7), ("(+ 5 ?1)", 12, 7), ("(+ ?1 5)", 3, 999998), ("(+ 999999 ?1)", 0, 1),
            ("(- ?1 5)", 12, 17), ("(- 5 ?1)", 12, 999993), ("(- 5 ?1)", 2, 3), ("(- ?1 999999)", 3, 2),
            ("(- 0 ?1)", 0, 0), ("(- 0 ?1)", 1, 999999), ("(+ (- 20 ?1) 4)", 9, 15), ("(- (+ (+ 1 2) ?1) 4)", 0, 1),
        ):
            self.tell(f"def f = {text}", f"to {answer}", must(1, "", str(wanted)))
            put = read_term(text.replace("?1", str(wanted)))
            self.assertEqual(run(((), (("f", (), put),)), (), 200)[1][0], ("num", answer))

    def test_sums_of_which_no_side_is_a_number(self):
        self.word("def f = (+ ?1 ?2)", "to 5", OPEN)
        self.word("def f = (- ?1 ?2)", "to 5", OPEN)
        self.word("def f = (- ?1 (+ ?2 1))", "to 5", OPEN)
        self.word("def f = (let x ?1 (+ x x))", "to 4", OPEN)

    def test_a_more(self):
        self.tell("def f (x num) = (more x ?1)", "3 to [3_4_5]", must(1, "x=3", "[4 5]"))
        self.tell("def f (x num) = (more ?2 ?1)", "3 to [4]", must(1, "x=3", "[]"), must(2, "x=3", "4"))
        self.word("def f (x num) = (more x ?1)", "3 to [4_4_5]", NEVER)
        self.word("def f (x num) = (more x ?1)", "3 to []", NEVER)
        self.tell("def f = (more (+ 1 ?2) (more 7 ?1))", "to [5_7]", must(1, "", "[]"), must(2, "", "4"))
        self.word("def f = (more (+ 1 ?2) (more 7 ?1))", "to [5]", NEVER)
        # A more of a row that is there is done, and its left things are wanted as a row's.
        self.tell("def f = (more ?1 (row 2))", "to [1_2]", must(1, "", "1"))

    def test_gaps(self):
        self.tell("def f (x num) (y (row num)) = ?7", "3 [4] to (t_5)", must(7, "x=3;y=[4]", "(t 5)"))
        self.tell("def f (x k) = (match x (t y (row y ?1)) (u (row ?2)) (w a b a))", "(t_3) to [3_9]",
                  must(1, "x=(t 3);y=3", "9"))
        self.tell("def f (x num) = (let x (row x x) (let y 1 (row ?1)))", "3 to [[]]", must(1, "x=[3 3];y=1", "[]"))

    def test_all_else_can_not_be_told(self):
        for term in ("(* ?1 2)", "(* 2 ?1)", "(: ?1 2)", "(: 2 ?1)", "(< ?1 2)", "(< 2 ?1)", "(= ?1 2)", "(= 2 ?1)",
                     "(long ?1)", "(first ?1)", "(if ?1 0 1)", "(fold ?1 x y 0 x)",
                     "(match ?1 (t x x) (u 0) (w x y y))"):
            self.word(f"def f = {term}", "to 1", OPEN)
        self.word("def f = (others ?1)", "to [1]", OPEN)


class NotWanted(Asking):
    def test_a_gap(self):
        self.tell("def f (x num) = (let y ?1 5)", "3 to 5", must(1, "x=3"))
        self.tell("def f = (long (row ?1 ?2))", "to 2", must(1, ""), must(2, ""))
        self.tell("def f = (first (row 1 ?2))", "to 1", must(2, ""))

    def test_that_is_never_a_fault(self):
        for term in ("(+ ?1 1)", "(- 2 ?1)", "(* ?1 1)", "(< ?1 1)", "(= 3 ?1)"):
            self.tell(f"def f = (let y {term} 5)", "to 5", must(1, ""))
        self.tell("def f = (let y (- ?1 ?2) 5)", "to 5", must(1, ""), must(2, ""))
        self.tell("def f = (let y (more 1 ?1) 5)", "to 5", must(1, ""))
        self.tell("def f = (let y (long ?1) 5)", "to 5", must(1, ""))
        self.tell("def f = (let y (+ 1 (long (more 1 (more 2 ?1)))) 5)", "to 5", must(1, ""))

    def test_that_may_be_a_fault(self):
        for term in ("(: ?1 2)", "(: 2 ?1)", "(first ?1)", "(others ?1)", "(if ?1 0 1)", "(fold ?1 x y 0 0)",
                     "(match ?1 (t x 0) (u 0) (w x y 0))"):
            self.word(f"def f = (let y {term} 5)", "to 5", OPEN)


class OneRow(Asking):
    def test_two_alike(self):
        self.tell("def f = (let x ?1 (row x x))", "to [4_4]", must(1, "", "4"))
        self.tell("def f = (let x ?1 (row x (+ x 1)))", "to [4_5]", must(1, "", "4"))
        self.tell("def f = (let x (+ ?1 1) (row x (- 9 x)))", "to [4_5]", must(1, "", "3"))
        self.tell("def f = (let x ?1 (row x (more 1 x)))", "to [[]_[1]]", must(1, "", "[]"))
        self.tell("def f = (let x ?1 (w: x (+ 1 (let z (more 1 x) 4))))", "to (w_[3_4]_5)", must(1, "", "[3 4]"))

    def test_two_unlike(self):
        for text, answer in (("(row x x)", "[4_5]"), ("(row x (+ x 1))", "[4_4]"), ("(row x (- 9 x))", "[4_4]"),
                             ("(row x (row) x)", "[[]_[]_[0]]"), ("(row (row x) (row 1 x))", "[[2]_[1_3]]"),
                             ("(row x (more 1 x))", "[[2]_[1_3]]"), ("(row x x)", "[(u)_(t_1)]")):
            self.word(f"def f = (let x ?1 {text})", f"to {answer}", NEVER)

    def test_of_an_op_and_of_a_more(self):
        self.word("def f = (let x (+ ?1 1) (row x x))", "to [4_5]", NEVER)
        self.word("def f = (let x (more 1 ?1) (row x x))", "to [[1]_[1_1]]", NEVER)
        # Of an op that can't be told two unlike things are wanted all the same.
        self.word("def f = (let x (* ?1 2) (row x x))", "to [4_5]", NEVER)
        self.word("def f = (let x (* ?1 2) (row x x))", "to [4_4]", OPEN)


class Verdicts(Asking):
    def test_a_fault(self):
        self.word("def f (x num) = (row ?1 (: 1 x))", "0 to [1_1]", NEVER)
        self.tell("def f (x num) = (row ?1 (: 1 x))", "1 to [1_0]", must(1, "x=1", "1"))

    def test_never_ahead_of_open(self):
        # All is gone through, so never is told wherever it stands.
        for text, answer in (("(row (* ?1 2) 3)", "[4_4]"), ("(row 3 (* ?1 2))", "[4_4]"),
                             ("(let x (first ?1) (more 5 (row ?2 ?3)))", "[6_1_1]"),
                             ("(row (more (* ?1 2) ?2) ?3)", "[[]_[]]"), ("(row ?3 (more (* ?1 2) ?2))", "[[]_[]]"),
                             ("(let x ?1 (row (* ?2 2) x x))", "[4_5_6]"), ("(let x ?1 (row x x (* ?2 2)))", "[5_6_4]"),
                             ("(let x ?1 (let y ?2 5))", "6")):
            self.word(f"def f = {text}", f"to {answer}", NEVER)

    def test_what_stands_behind_what_can_not_be_told(self):
        # Of the inner sum nothing is wanted, as the product can't be told.
        self.word("def f = (row (* 2 (+ ?1 1)) ?2)", "to [4_1]", OPEN)

    def test_things_around_that_are_not_closed(self):
        self.word("def f = (let x ?1 (row x ?2))", "to [4_5]", OPEN)
        self.word("def f = (let x (row 1 ?1) ?2)", "to 5", OPEN)
        self.word("def f = (let x ?1 (let y ?2 5))", "to 5", OPEN)
        self.word("def f (a num) = (fold (row 1 2) x y a (+ x ?1))", "5 to 9", OPEN)
        self.tell("def f (a num) = (row (let x ?1 x) ?2)", "3 to [4_5]", must(1, "a=3", "4"), must(2, "a=3", "5"))

    def test_the_first_want_of_which_it_is_not_so(self):
        text = "def f (x num) = (if x (+ ?1 x) (if (- 1 x) (* 2 ?2) ?3))"
        self.assertEqual(ask(text, "1 to 5", "0 to 4", "1 to 3"), ("open", 1))
        self.assertEqual(ask(text, "0 to 4", "1 to 5"), ("open", 0))
        text = "def f (x num) = (row x (: 5 x) (* ?1 x))"
        self.assertEqual(ask(text, "0 to [0_0_0]", "1 to [1_0_0]"), ("never", 0))
        self.assertEqual(ask(text, "1 to [1_0_0]", "0 to [0_0_0]"), ("open", 0))
        text = "def f (x num) = (row x (: 5 x) ?1)"
        self.assertEqual(ask(text, "1 to [1_0_7]", "1 to [1_0_8]", "0 to [0_0_0]", "2 to [3_0_0]"), ("never", 2))
        self.assertEqual(ask(text, "1 to [1_0_7]", "1 to [1_0_8]", "2 to [3_0_0]", "0 to [0_0_0]"), ("never", 2))

    def test_those_behind_it_are_not_run(self):
        text = "def f (x (row num)) = (fold x a b 0 (+ a b))"
        self.assertEqual(ask(text, "[] to 1", "[1_2_3_4] to 10", most=2), ("never", 0))
        with self.assertRaises(TooLong) as taken:
            ask(text, "[] to 0", "[1_2_3_4] to 10", "[] to 1", most=7)
        self.assertEqual(taken.exception.most, 7)
        self.assertEqual(ask(text, "[] to 0", "[1_2_3_4] to 10", "[1] to 2", most=8), ("never", 2))


class Musts(Asking):
    def test_sorted(self):
        text = "def f (x num) = (row ?9 ?2 (let y x ?5))\ndef g (x num) = (row (call f x) (call f (+ x 1)))"
        wants = ("3 to [[1_2_3]_[4_5_6]]", "8 to [[0_0_0]_[7_7_7]]")
        self.assertEqual(ask(text, *wants), ("musts", [
            must(2, "x=3", "2"), must(2, "x=4", "5"), must(2, "x=8", "0"), must(2, "x=9", "7"),
            must(5, "x=3;y=3", "3"), must(5, "x=4;y=4", "6"), must(5, "x=8;y=8", "0"), must(5, "x=9;y=9", "7"),
            must(9, "x=3", "1"), must(9, "x=4", "4"), must(9, "x=8", "0"), must(9, "x=9", "7")]))

    def test_with_and_without_a_thing(self):
        text = "def f (x num) = (if x (+ (let y ?1 1) ?2) ?3)"
        self.assertEqual(ask(text, "1 to 5", "0 to 6", "2 to 7"),
                         ("musts", [must(1, "x=1"), must(1, "x=2"), must(2, "x=1", "4"), must(2, "x=2", "6"),
                                    must(3, "x=0", "6")]))

    def test_without_wants(self):
        self.assertEqual(ask("def f = ?1"), ("musts", []))
        self.assertEqual(ask("def f = (: 1 0)"), ("musts", []))

    def test_a_want_told_twice(self):
        self.assertEqual(ask("def f (x num) = (+ x ?1)", "3 to 5", "3 to 5"), ("musts", [must(1, "x=3", "2")] * 2))
        self.assertEqual(ask("def f (x num) = (+ x ?1)", "3 to 5", "3 to 6"),
                         ("musts", [must(1, "x=3", "2"), must(1, "x=3", "3")]))

    def test_too_long(self):
        text = "def f = (+ ?1 (+ 1 (+ 2 3)))"
        self.assertEqual(ask(text, "to 9", most=2), ("musts", [must(1, "", "3")]))
        with self.assertRaises(TooLong) as taken:
            ask(text, "to 9", most=1)
        self.assertEqual(taken.exception.most, 1)
        # Most is for each run by itself.
        self.assertEqual(ask(text, "to 9", "to 8", most=2)[0], "musts")

    def test_lists_that_are_handed_in_and_told(self):
        program = read_program("def f (x num) (y num) = (row x ?1 y)")
        inputs = [read_thing("1"), read_thing("2")]
        wants = ((inputs, read_thing("[1 3 2]")),)
        kept = repr((program, wants))
        first = musts(program, wants, 5)
        self.assertEqual(first, ("musts", [must(1, "x=1;y=2", "3")]))
        self.assertIsInstance(first[1], list)
        self.assertEqual(repr((program, wants)), kept)
        second = musts(program, ((tuple(inputs), read_thing("[1 3 2]")),), 5)
        self.assertEqual(first, second)
        first[1].clear()
        inputs.clear()
        self.assertEqual(second, ("musts", [must(1, "x=1;y=2", "3")]))

    def test_an_answer_that_was_told_of_a_run(self):
        term, answer = ("gap", 1), ("num", 7)
        for k in range(3000):
            term, answer = ("row", (term,)), ("row", (answer,))
        program = ((), (("f", (), ("row", (term, term[1][0]))),))
        told = musts(program, (((), ("row", (answer, answer[1][0]))),), 5)
        self.assertEqual(told, ("musts", [(1, (), ("num", 7)), (1, (), ("num", 7))]))
        program = ((), (("f", (), ("let", "x", ("gap", 1), ("row", (("name", "x"), ("name", "x"))))),))
        told = musts(program, (((), ("row", (answer, answer))),), 5)
        self.assertTrue(meets(program, told[1][0], with_number(term), 5))
        self.assertEqual(musts(program, (((), ("row", (answer, answer[1][0]))),), 5), NEVER)


def with_number(term):
    return filled(((), (("f", (), term),)), ((1, ("num", 7)),), ())[1][0][2]


class Meets(unittest.TestCase):
    TEXT = KINDS + "def f (x num) = (: 12 x)\ndef g (x num) (y (row num)) = (row (first y) ?1)"

    def ask(self, wanted, term, most=200):
        return meets(read_program(self.TEXT), wanted, read_term(term), most)

    def test_with_a_thing(self):
        for term, wanted in (("6", True), ("(+ x (first y))", True), ("(call f 7)", False), ("(* x 3)", True),
                             ("7", False), ("(: x 0)", False), ("(first (others (others y)))", False),
                             ("(call f 0)", False), ("(- 6 (call f x))", True)):
            self.assertIs(self.ask(must(1, "x=2;y=[4 5]", "6"), term), wanted, term)
        self.assertIs(self.ask(must(1, "x=2;y=[4 5]", "[4 5 2]"), "(fold y a b (row x) (more a b))"), False)
        self.assertIs(self.ask(must(1, "x=2;y=[4 5]", "[5 4 2]"), "(fold y a b (row x) (more a b))"), True)
        self.assertIs(self.ask(must(1, "x=2;y=[4 5]", "(t 2)"), "(t: x)"), True)
        self.assertIs(self.ask(must(1, "x=2;y=[4 5]", "(t 2)"), "(u:)"), False)

    def test_with_none(self):
        for term, wanted in (("6", True), ("(first y)", True), ("(: x 0)", False),
                             ("(first (others (others y)))", False), ("(call f 0)", False),
                             ("(call f x)", True), ("(let q (: 1 (- x 2)) 5)", False)):
            self.assertIs(self.ask(must(1, "x=2;y=[4 5]"), term), wanted, term)

    def test_too_long(self):
        self.assertIs(self.ask(must(1, "x=2;y=[4 5]", "6"), "(+ x (* 2 x))", 2), True)
        with self.assertRaises(TooLong) as taken:
            self.ask(must(1, "x=2;y=[4 5]", "6"), "(+ x (* 2 x))", 1)
        self.assertEqual(taken.exception.most, 1)
        self.assertIs(self.ask(must(1, "x=2;y=[4 5]"), "(row (+ x 1) (: x 0) (+ x 1))", 1), False)

    def test_as_told_by_musts(self):
        program = read_program(self.TEXT)
        told = musts(program, (want_of("2 [4_5] to [4_6]"), want_of("3 [3] to [3_6]")), 200)
        self.assertEqual([meets(program, each, read_term("(+ x 4)"), 9) for each in told[1]], [True, False])
        self.assertEqual([meets(program, each, read_term("(+ x (first y))"), 9) for each in told[1]], [True, True])


class BySeeds(unittest.TestCase):
    def wants_for(self, rand, program, inputs, put):
        """Wants: with the answers of a program filled, or others of their kind."""
        params, kind = slow_all_kinds(program)[2]
        wants = []
        for k in range(rand.randint(1, 3)):
            given = inputs if k == 0 else tuple(make_of(rand, program, each) for each in params)
            told = outcome(run, put, given, 3000)
            if told[0] == "told" and told[1][0] == "sheet" and rand.random() < 0.8:
                answer = told[1][1][0]
                if "left" in texts_in(answer) or "any" in texts_in((kind,)):
                    return None
                if rand.random() < 0.2:
                    answer = make_of(rand, program, slow_all_kinds(put)[2][1])
            else:
                answer = make_of(rand, program, with_letters(kind, {n: "num" for n in range(20)}))
            wants.append((rand.choice((list, tuple))(given), answer))
        return tuple(wants)

    def tries(self, seeds, many, gap):
        rand = seeded(seeds[0])
        for program, inputs in runs_to_do(seeds[1], many, size=14, gap=gap):
            terms, kinds = make_fillings(rand, program, some=1)
            put = filled(program, terms, kinds)
            wants = self.wants_for(rand, program, inputs, put)
            if wants is not None and gaps(program)[0]:
                yield rand, program, put, dict(terms), wants

    def test_as_the_slow_way(self):
        seen = {}
        for rand, program, put, terms, wants in self.tries((181, 182), 3000, 0.3):
            for most in (200, 1):
                wanted = slow_musts(program, wants, most)
                self.assertEqual(outcome(musts, program, wants, most), wanted, (program, wants))
                word = wanted[1][0] if wanted[0] == "told" else wanted[0]
                seen[word] = seen.get(word, 0) + 1
        self.assertEqual(len(seen), 4, seen)
        self.assertGreater(min(seen.values()), 50, seen)

    def test_all_answers_just_where_all_musts_are_met(self):
        seen = {}
        for rand, program, put, terms, wants in self.tries((183, 184), 6000, 0.3):
            told = outcome(musts, program, wants, 3000)
            runs = [outcome(run, put, inputs, 3000) for inputs, answer in wants]
            if told[0] != "told" or any(each[0] != "told" for each in runs):
                continue
            right = [each[1][0] == "sheet" and each[1][1] == (answer, ())
                     for each, (inputs, answer) in zip(runs, wants)]
            if told[1][0] == "musts":
                self.assertFalse([n for n in terms if gaps_in(terms[n])])
                met = all([meets(program, each, terms[each[0]], 3000) for each in told[1][1]])
                self.assertEqual(met, all(right), (program, wants, terms))
                seen["musts", met] = seen.get(("musts", met), 0) + 1
            elif told[1][0] == "never":
                self.assertFalse(right[told[1][1]], (program, wants, terms))
                seen["never"] = seen.get("never", 0) + 1
        self.assertEqual(len(seen), 3, seen)
        self.assertGreater(min(seen.values()), 100, seen)


class ByHand(unittest.TestCase):
    """Fillings one by one: those that meet all musts are those by which all answers come."""

    def test_some_programs(self):
        terms = [read_term(each) for each in (
            "0", "1", "2", "x", "(+ x 1)", "(- 5 x)", "(* x x)", "(: 6 x)", "(long (row))", "(if x 1 2)", "(: x 0)")]
        seen = {True: 0, False: 0}
        for text, wants in (
            ("def f (x num) = (+ 3 ?1)", ("1 to 5", "2 to 6")), ("def f (x num) = (- 3 ?1)", ("1 to 2", "2 to 2")),
            ("def f (x num) = (more ?1 (row x))", ("2 to [4_2]", "3 to [9_3]")),
            ("def f (x num) = (let y ?1 x)", ("0 to 0", "3 to 3")),
            ("def f (x num) = (let x (+ x 1) (row ?1 x))", ("1 to [3_2]",)),
            ("def f (x num) = (row x (fold (row x 1) x y 7 x) (- ?1 1))", ("1 to [1_1_1]", "2 to [2_1_2]")),
        ):
            program = read_program(text)
            told = ask(text, *wants)
            self.assertEqual(told[0], "musts")
            for term in terms:
                put = filled(program, ((1, term),), ())
                runs = [(run(put, inputs, 200), answer) for inputs, answer in map(want_of, wants)]
                right = all(each[0] == "sheet" and each[1] == (answer, ()) for each, answer in runs)
                self.assertIs(all(meets(program, each, term, 200) for each in told[1]), right, (text, term))
                seen[right] += 1
        self.assertGreater(min(seen.values()), 9, seen)


if __name__ == "__main__":
    unittest.main()
