import unittest

from gapwork.errors import NoGap, TooMany
from gapwork.filled import filled
from gapwork.kinds import look
from gapwork.papers import paper_holds
from gapwork.reader import read_kind, read_program, read_term
from gapwork.runs import run
from gapwork.search import searched
from gapwork.terms import parts
from gapwork.thingtexts import read_thing
from gapwork.wants import meets, musts
from gapwork.writer import kind_text, term_text
from tests.helper import BruteSearch, must_of, outcome, searches_to_do, slow_all_kinds

KINDS = "kind p (two num num)\nkind k (t num) (u) (w (row p))\n"


def things(text):
    return tuple(read_thing(each.replace("_", " ")) for each in text.split(" "))


class Asking(unittest.TestCase):
    def ask(self, text, texts, numbers, size, most=150):
        program = read_program(KINDS + text)
        self.assertIs(look(program), True)
        names = [name for name, kind in slow_all_kinds(program)[0][1][0]]
        wanted = [must_of(names, each) for each in texts]
        told = searched(program, 1, wanted, numbers, size, most)
        self.rows_are_right(program, wanted, numbers, size, told)
        # Asked again, and with a tuple: the same.
        self.assertEqual(searched(program, 1, tuple(wanted), numbers, size, most), told)
        return told

    def rows_are_right(self, program, wanted, numbers, size, told):
        """What is told is just what all terms there are, run one by one, come to."""
        reached = told[2] if told[0] == "found" else size
        brute = BruteSearch(program, 1, wanted, numbers, reached)
        rows = told[-1]
        self.assertEqual(brute.found(reached), told[2] if told[0] == "found" else None)
        self.assertIsInstance(rows, tuple)
        lesser = reached - 1 if told[0] == "found" else reached
        self.assertEqual({(kind, values): own for kind, values, term, own in rows}, brute.least(lesser))
        self.assertEqual(len(rows), len(brute.least(lesser)))
        self.assertEqual([row[3] for row in rows], sorted(row[3] for row in rows))
        for kind, values, term, own in rows:
            self.assertEqual(brute.terms[kind, own][term], values)
            self.assertEqual(len(parts(term)), own)
        if told[0] == "found":
            self.assertTrue(brute.right(brute.terms[brute.goal, reached][told[1]]))
            self.assertEqual([meets(program, each, told[1], 200) for each in wanted], [True] * len(wanted))
            self.assertIs(look(filled(program, ((1, told[1]),), ())), True)
        self.assertIs(paper_holds(program, 1, wanted, numbers, lesser, rows), True)

    def finds(self, text, texts, numbers, size, wanted):
        told = self.ask(text, texts, numbers, size)
        self.assertEqual(told[0], "found", (text, texts, told))
        self.assertEqual((term_text(told[1]), told[2]), (wanted, len(parts(read_term(wanted)))), (text, texts))
        return told

    def rows_of(self, told):
        return sorted((term_text(term), own) for kind, values, term, own in told[-1])


class Found(Asking):
    def test_names_and_numbers(self):
        self.finds("def f (x num) (y num) = (+ x ?1)", ["3 4 to 4", "5 9 to 9"], (), 3, "y")
        self.finds("def f (x num) (y num) = (+ x ?1)", ["3 4 to 7", "5 9 to 7"], (0, 7), 3, "7")
        self.finds("def f = (row ?1 (u:))", ["to (u)", "to (u)"], (), 3, "(u:)")
        self.finds("def f (x num) = (more x ?1)", ["3 to []"], (), 3, "(row)")

    def test_ops(self):
        for sign, one, other in (("+", "7", "11"), ("-", "3", "999999"), ("*", "10", "30"), (":", "1", "5"),
                                 ("<", "0", "1"), ("=", "1", "0")):
            texts = [f"5 {5 if sign == '=' else 2} to {one}", f"5 6 to {other}"]
            told = self.ask("def f (x num) (y num) = (+ x ?1)", texts, (), 3)
            self.assertEqual((told[0], told[2]), ("found", 3))
            self.assertIn(sign, term_text(told[1]))
        self.finds("def f (x num) = (+ x ?1)", ["5 to 25", "3 to 9"], (), 3, "(* x x)")

    def test_rows(self):
        row = "def f (x num) (r (row num)) = (more x ?1)"
        self.finds(row, ["3 [1_2] to [3_1_2]", "4 [] to [4]"], (), 3, "(more x r)")
        self.finds(row, ["3 [1_2] to [2]", "4 [5] to []"], (), 3, "(others r)")
        num = "def f (x num) (r (row num)) = (+ x ?1)"
        self.finds(num, ["3 [1_2] to 1", "4 [5] to 5"], (), 3, "(first r)")
        self.finds(num, ["3 [1_2] to 2", "4 [5] to 1"], (), 3, "(long r)")
        self.finds(num, ["3 [1_2] to 2", "4 [5_7] to 7"], (), 3, "(first (others r))")

    def test_tags(self):
        self.finds("def f (x num) (y num) = (row ?1 (t: 0))", ["3 4 to (t_4)", "4 5 to (t_5)"], (), 3, "(t: y)")
        text = "def f (x num) (y num) = (match ?1 (two a b a))"
        self.finds(text, ["3 4 to (two_4_3)", "4 5 to (two_5_4)"], (), 3, "(two: y x)")
        self.finds("def f (a p) (r (row p)) = (match ?1 (w x 1) (t x 1) (u 1))",
                   ["(two_4_3) [(two_1_1)] to (w_[(two_4_3)_(two_1_1)])"], (), 4, "(w: (more a r))")

    def test_an_if(self):
        text = "def f (x num) (y num) (z num) = (+ x ?1)"
        self.finds(text, ["0 7 30 to 30", "1 8 50 to 8", "2 9 90 to 9", "0 90 9 to 9"], (), 4, "(if x y z)")
        # The side that isn't gone into may be a fault.
        self.finds("def f (x num) (r (row num)) = (+ x ?1)", ["0 [] to 0", "1 [7] to 7", "2 [9_1] to 9"], (), 5,
                   "(if x (first r) x)")

    def test_names_of_a_let_a_fold_an_arm(self):
        self.finds("def f (x num) = (let y (row x) (+ x ?1))", ["3 [3] to 1", "4 [4] to 1"], (), 2, "(long y)")
        self.finds("def f (r (row num)) = (fold r x y 0 (+ ?1 0))", ["[3_4] 3 0 to 3", "[3_4] 4 3 to 7"], (), 3,
                   "(+ x y)")
        self.finds("def f (q p) = (match q (two x y (- ?1 1)))", ["(two_3_4) 3 4 to 1", "(two_5_4) 5 4 to 0"], (), 3,
                   "(< x y)")

    def test_in_a_def_ahead(self):
        self.finds("def f (x num) (r (row num)) = (more ?1 r)\ndef g (z p) = (call f 1 (row))",
                   ["1 [] to 1", "2 [] to 2"], (), 2, "x")

    def test_of_the_gaps_kind_alone(self):
        # The name tells what is wanted, of another kind: a row without things.
        told = self.ask("def f (r (row num)) (s (row (row num))) = (more 1 ?1)", ["[1] [] to []"], (), 2)
        self.assertEqual(told[:3], ("found", ("row", ()), 1))

    def test_musts_without_a_thing(self):
        told = self.ask("def f (x num) (r (row num)) = (let y (+ 0 ?1) x)", ["3 [] to any"], (), 2)
        self.assertEqual(told, ("found", ("name", "x"), 1, ()))
        text = "def f (r (row num)) = (let y (+ 0 ?1) 1)"
        self.finds(text, ["[7] to any", "[2_3] to 2"], (), 3, "(first r)")
        told = self.ask(text, ["[7] to any", "[] to any", "[2_3] to 2"], (), 3)
        self.assertEqual((told[0], told[1]), ("found", ("long", ("name", "r"))))
        # A fault isn't let by where nothing is wanted but that none comes.
        told = self.ask(text, ["[] to any", "[7] to 7"], (), 2)
        self.assertEqual(told[0], "none")


class NoneFound(Asking):
    def test_none(self):
        told = self.ask("def f (x num) = (+ x ?1)", ["3 to 4", "3 to 5"], (0, 1), 4)
        self.assertEqual(told[0], "none")

    def test_of_size_nought(self):
        self.assertEqual(self.ask("def f (x num) = (+ x ?1)", ["3 to 3"], (0, 1), 0), ("none", ()))

    def test_a_size_too_small(self):
        text, texts = "def f (x num) = (+ x ?1)", ["3 to 10", "4 to 17"]
        for size in range(5):
            self.assertEqual(self.ask(text, texts, (1,), size)[0], "none")
        told = self.ask(text, texts, (1,), 5)
        self.assertEqual((told[0], told[2]), ("found", 5))
        self.assertEqual(max(row[3] for row in told[3]), 3)
        self.assertEqual(self.ask(text, texts, (1,), 4)[1], told[3])

    def test_without_names_and_numbers(self):
        self.assertEqual(self.ask("def f = (+ 1 ?1)", ["to 3"], (), 5), ("none", ()))
        told = self.ask("def f = (more 1 ?1)", ["to [1]"], (), 4)
        self.assertEqual(self.rows_of(told), [("(long (row))", 2), ("(more (long (row)) (row))", 4), ("(row)", 1)])


class Rows(Asking):
    def test_each_sort_of_terms(self):
        told = self.ask("def f (x num) (r (row num)) = (+ x ?1)", ["2 [5_6] to 77", "3 [1_9_9] to 99"], (0,), 3)
        self.assertEqual(self.rows_of(told), sorted([
            ("x", 1), ("r", 1), ("0", 1), ("(row)", 1), ("(first r)", 2), ("(others r)", 2),
            ("(+ x x)", 3), ("(- 0 x)", 3), ("(* x x)", 3), ("(< 0 x)", 3),
            ("(first (others r))", 3), ("(more x r)", 3), ("(more x (row))", 3), ("(more 0 r)", 3),
            ("(more 0 (row))", 3), ("(others (others r))", 3), ("(long (others r))", 3)]))

    def test_a_row_without_terms_of_each_rows_kind(self):
        told = self.ask("def f (r (row (row num))) (q k) = (more ?1 r)", ["[[1]] (u) to [3]", "[] (u) to [3]"], (), 1)
        empty = (("row", ()), ("row", ()))
        self.assertEqual(sorted(kind_text(row[0]) for row in told[1] if row[1] == empty),
                         ["(row (row num))", "(row num)", "(row p)"])

    def test_one_row_where_two_tell_the_same(self):
        told = self.ask("def f (x num) (y num) = (+ x ?1)", ["3 3 to 99", "4 4 to 99"], (3,), 1)
        self.assertEqual(len(told[1]), 2)
        told = self.ask("def f (x num) (y num) = (+ x ?1)", ["3 3 to 99", "4 5 to 99"], (3,), 1)
        self.assertEqual(len(told[1]), 3)

    def test_faults(self):
        text = "def f (r (row num)) = (+ 1 ?1)"
        told = self.ask(text, ["[] to 9", "[5] to 9"], (), 2)
        self.assertIn((read_kind("num"), (("fault",), ("num", 5)), read_term("(first r)"), 2), told[1])
        told = self.ask(text, ["[] to 9", "[] to 9"], (), 4)
        self.assertFalse([row for row in told[1] if ("fault",) in row[1]])

    def test_kinds_that_can_come_up(self):
        told = self.ask("def f (q k) = (+ 1 ?1)", ["(t_3) to 9"], (), 2)
        kinds = {row[0] for row in told[1]}
        self.assertEqual(kinds, {"num", ("kind", "k"), ("row", ("kind", "p"))})
        told = self.ask("def f (q k) = (+ 1 ?1)", ["(t_3) to 9"], (1,), 3)
        self.assertIn(("kind", "p"), {row[0] for row in told[1]})
        # No row of numbers, nor of k, can come up; nor anything of a kind that stands nowhere.
        self.assertNotIn(("row", "num"), {row[0] for row in told[1]})
        told = self.ask("def f (x num) = (+ 1 ?1)", ["3 to 99"], (1,), 4)
        self.assertEqual({row[0] for row in told[1]}, {"num"})

    def test_lesser_ones_alone_with_a_found_one(self):
        told = self.finds("def f (x num) (r (row num)) = (+ x ?1)", ["3 [1_2] to 2", "4 [5_7] to 7"], (), 5,
                          "(first (others r))")
        self.assertEqual({row[3] for row in told[3]}, {1, 2})


class TooManyRows(Asking):
    def test_more_than_most(self):
        text, texts = "def f (x num) (r (row num)) = (+ x ?1)", ["2 [5_6] to 77", "3 [1_9_9] to 99"]
        many = [len(self.ask(text, texts, (0,), size)[1]) for size in range(1, 5)]
        self.assertEqual(many[:3], [4, 6, 17])
        for size, each in enumerate(many, 1):
            self.assertEqual(self.ask(text, texts, (0,), size, most=each)[0], "none")
            for less in range(1, min(each, 5)):
                with self.assertRaises(TooMany) as taken:
                    self.ask(text, texts, (0,), size, most=each - less)
                self.assertEqual(taken.exception.most, each - less)

    def test_rows_that_would_not_be_told_do_not_count(self):
        text, texts = "def f (x num) (r (row num)) = (+ x ?1)", ["2 [5_6] to 4", "3 [1_9_9] to 6"]
        told = self.ask(text, texts, (0,), 5, most=6)
        self.assertEqual((told[0], told[2], len(told[3])), ("found", 3, 6))
        with self.assertRaises(TooMany) as taken:
            self.ask(text, texts, (0,), 5, most=5)
        self.assertEqual(taken.exception.most, 5)
        told = self.ask(text, ["2 [5_6] to 2", "3 [1_9_9] to 3"], (0,), 5, most=1)
        self.assertEqual(told, ("found", ("name", "x"), 1, ()))


class Whole(Asking):
    def test_a_found_term_makes_the_runs_tell_the_answers(self):
        for text, wants, numbers in (
            ("def f (x num) (r (row num)) = (+ x ?1)", ("3 [1_2] to 5", "4 [5_7] to 11"), ()),
            ("def f (r (row num)) = (row (first r) (let x (long r) (- ?1 1)))",
             ("[1_2_3] to [1_5]", "[4] to [4_1]"), ()),
            ("def f (q p) = (match q (two a b (row b ?1 a)))", ("(two_3_4) to [4_7_3]", "(two_1_1) to [1_2_1]"), ()),
            ("def d (x num) = (+ ?1 1)\ndef f (x num) = (row (call d x) (call d (+ x 1)))", ("3 to [8_9]",), (1, 4)),
        ):
            program = read_program(KINDS + text)
            pairs = [(things(want.split(" to ")[0]), things(want.split(" to ")[1])[0]) for want in wants]
            told = musts(program, tuple(pairs), 200)
            self.assertEqual(told[0], "musts", text)
            found = searched(program, 1, told[1], numbers, 5, 150)
            self.assertEqual(found[0], "found", text)
            put = filled(program, ((1, found[1]),), ())
            for inputs, answer in pairs:
                self.assertEqual(run(put, inputs, 200)[1], (answer, ()))
            self.assertIs(paper_holds(program, 1, told[1], numbers, found[2] - 1, found[3]), True)

    def test_musts_in_a_list_are_not_changed(self):
        program = read_program("def f (x num) = (+ x ?1)")
        wanted = [must_of("x", "3 to 4"), must_of("x", "5 to 6")]
        kept = repr((program, wanted))
        first = searched(program, 1, wanted, (1,), 3, 9)
        self.assertEqual(repr((program, wanted)), kept)
        wanted.clear()
        self.assertEqual(first[:3], ("found", read_term("(+ x 1)"), 3))

    def test_a_gap_that_is_not_there(self):
        program = read_program("def f (x num) = (+ x ?1)")
        self.assertEqual(outcome(searched, program, 2, [must_of("x", "3 to 4")], (), 3, 9), ("NoGap", 2))
        with self.assertRaises(NoGap):
            paper_holds(program, 2, [must_of("x", "3 to 4")], (), 3, ())

    def test_kinds_deeper_than_keys_may_be(self):
        deep = "(row " * 6 + "num" + ")" * 6
        told = self.ask(f"def f (x {deep}) = (row ?1 (first x))", ["[[[[[[1]]]]]] to [[[[[1_1]]]]]"], (), 4)
        self.assertEqual(told[0], "none")
        told = self.ask(f"def f (x {deep}) = (row ?1 (first x))", ["[[[[[[1]]]]_[[[[2]]]]]] to [[[[[2]]]]]"], (), 5)
        self.assertEqual(told[:3], ("found", read_term("(others (first x))"), 3))

    def test_great_things(self):
        row = ("row", tuple(("num", n) for n in range(9000)))
        program = read_program("def f (r (row num)) = (+ 1 ?1)")
        wanted = [(1, (("r", row),), ("num", 9001)), (1, (("r", ("row", ())),), ("num", 1))]
        told = searched(program, 1, wanted, (1,), 4, 150)
        self.assertEqual((told[0], told[2]), ("found", 4))
        self.assertIn(told[1], (read_term("(+ 1 (long r))"), read_term("(+ (long r) 1)"),
                                read_term("(long (more 1 r))")))
        self.assertIs(paper_holds(program, 1, wanted, (1,), 3, told[3]), True)


class BySeeds(unittest.TestCase):
    def test_as_all_terms_run_one_by_one(self):
        seen = {}
        for program, n, wanted, numbers in searches_to_do(191, 150):
            for size in (3, 2):
                brute = BruteSearch(program, n, wanted, numbers, size)
                found = brute.found(size)
                rows = brute.least(size if found is None else found - 1)
                told = outcome(searched, program, n, wanted, numbers, size, 60)
                if len(rows) > 60:
                    self.assertEqual(told, ("TooMany", 60))
                    seen["TooMany"] = seen.get("TooMany", 0) + 1
                    continue
                self.assertEqual(told[1][0], "none" if found is None else "found")
                self.assertEqual({row[:2]: row[3] for row in told[1][-1]}, rows)
                self.assertEqual(len(told[1][-1]), len(rows))
                if found is not None:
                    self.assertEqual(told[1][2], found)
                    self.assertTrue(brute.right(brute.terms[brute.goal, found][told[1][1]]))
                up_to = size if found is None else found - 1
                self.assertIs(paper_holds(program, n, wanted, numbers, up_to, told[1][-1]), True)
                self.assertIs(brute.paper_holds(up_to, told[1][-1]), True)
                word = (told[1][0], told[1][2] if found else size)
                seen[word] = seen.get(word, 0) + 1
        self.assertGreaterEqual(len(seen), 5, seen)
        self.assertGreater(min(seen.values()), 2, seen)


if __name__ == "__main__":
    unittest.main()
