import unittest

from gapwork.papers import paper_holds
from gapwork.reader import read_kind, read_program, read_term
from gapwork.search import searched
from gapwork.thingtexts import read_thing
from gapwork.writer import term_text
from tests.helper import BruteSearch, must_of, outcome, searches_to_do, seeded

KINDS = "kind p (two num num)\nkind k (t num) (u) (w (row p))\n"
FAULT = ("fault",)


def row_of(kind, values, term, size):
    """A row of a paper by its texts; a fault is `fault`."""
    told = tuple(FAULT if each == "fault" else read_thing(each.replace("_", " ")) for each in values.split(" "))
    return (read_kind(kind), told, read_term(term), size)


class Asking(unittest.TestCase):
    TEXT = KINDS + "def f (x num) (r (row num)) = (+ x ?1)"
    MUSTS = ("2 [5_6] to 77", "3 [1] to 99")
    NUMBERS = (0, 1)
    SIZE = 3

    def setUp(self):
        self.program = read_program(self.TEXT)
        self.musts = [must_of("xr", each) for each in self.MUSTS]
        self.rows = searched(self.program, 1, self.musts, self.NUMBERS, self.SIZE, 150)[1]

    def holds(self, rows, size=None, musts=None, numbers=None):
        size = self.SIZE if size is None else size
        musts = self.musts if musts is None else musts
        numbers = self.NUMBERS if numbers is None else numbers
        told = paper_holds(self.program, 1, musts, numbers, size, tuple(rows))
        self.assertIn(told, (True, False))
        self.assertIsInstance(told, bool)
        self.assertIs(BruteSearch(self.program, 1, musts, numbers, size).paper_holds(size, rows), told)
        return told

    def at(self, text):
        """Where the row of a term stands."""
        return [term_text(row[2]) for row in self.rows].index(text)

    def with_row(self, at, row):
        return self.rows[:at] + (row,) + self.rows[at + 1:]

    def another(self, at, **otherwise):
        """The rows with one that is otherwise in one thing."""
        row = dict(zip(("kind", "values", "term", "size"), self.rows[at]))
        row.update(otherwise)
        return self.with_row(at, tuple(row.values()))


class Holds(Asking):
    def test_as_told(self):
        self.assertGreater(len(self.rows), 20)
        self.assertIs(self.holds(self.rows), True)
        self.assertIs(paper_holds(self.program, 1, tuple(self.musts), self.NUMBERS, self.SIZE, self.rows), True)

    def test_in_another_order_of_one_size(self):
        rand = seeded(201)
        for k in range(10):
            rows = sorted(rand.sample(self.rows, len(self.rows)), key=lambda row: row[3])
            self.assertIs(self.holds(rows), True)

    def test_with_another_term_of_one_size(self):
        brute = BruteSearch(self.program, 1, self.musts, self.NUMBERS, self.SIZE)
        others = 0
        for at, (kind, values, term, size) in enumerate(self.rows):
            for other, told in brute.terms[kind, size].items():
                if told == values and other != term:
                    self.assertIs(self.holds(self.another(at, term=other)), True)
                    others += 1
        self.assertGreater(others, 0)

    def test_with_terms_that_are_not_made_of_rows_terms(self):
        program = read_program("def f (x num) (y num) = (+ x ?1)")
        musts = [must_of("xy", each) for each in ("2 2 to 77", "5 5 to 99")]
        rows = searched(program, 1, musts, (1,), 3, 150)[1]
        self.assertEqual([term_text(row[2]) for row in rows if row[3] == 1 and row[2][0] == "name"], ["x"])
        told = tuple((kind, values, read_term(term_text(term).replace("x", "y")) if size == 3 else term, size)
                     for kind, values, term, size in rows)
        self.assertNotEqual(told, rows)
        self.assertIs(paper_holds(program, 1, musts, (1,), 3, told), True)

    def test_of_size_nought(self):
        self.assertIs(self.holds((), size=0), True)
        self.assertIs(self.holds(self.rows[:1], size=0), False)

    def test_for_a_size_one_less_than_the_found_terms(self):
        musts = [must_of("xr", each) for each in ("2 [5_6] to 6", "3 [1_4] to 4")]
        told = searched(self.program, 1, musts, (0, 1), 5, 150)
        self.assertEqual(told[:3], ("found", read_term("(first (others r))"), 3))
        self.assertIs(self.holds(told[3], size=2, musts=musts), True)
        self.assertIs(self.holds(told[3], size=3, musts=musts), False)
        self.assertIs(self.holds(told[3], size=1, musts=musts), False)
        with_found = told[3] + (("num", (("num", 6), ("num", 4)), told[1], 3),)
        self.assertIs(self.holds(with_found, size=3, musts=musts), False)


class Otherwise(Asking):
    def test_a_row_left_out(self):
        for at in range(len(self.rows)):
            self.assertIs(self.holds(self.rows[:at] + self.rows[at + 1:]), False, self.rows[at])
        self.assertIs(self.holds(()), False)

    def test_a_row_twice(self):
        for at in range(len(self.rows)):
            self.assertIs(self.holds(self.rows[:at] + self.rows[at:at + 1] + self.rows[at:]), False)

    def test_two_of_one_kind_and_values(self):
        at = self.at("(+ x x)")
        other = self.rows[at][:2] + (read_term("(* x (+ 1 1))"), 5)
        self.assertIs(self.holds(self.rows + (other,), size=5), False)
        extra = row_of("num", "2 3", "(+ x 0)", 3)
        self.assertIs(self.holds(self.rows + (extra,)), False)

    def test_another_size(self):
        for at in range(len(self.rows)):
            for size in (-1, 0, 1, 2, 3, 4, 99):
                if size != self.rows[at][3]:
                    self.assertIs(self.holds(self.another(at, size=size)), False)

    def test_another_kind(self):
        for at in range(len(self.rows)):
            for kind in ("num", "(row num)", "(row (row num))", "k", "p", "(row p)", "none", "?1", "'0"):
                if read_kind(kind) != self.rows[at][0]:
                    self.assertIs(self.holds(self.another(at, kind=read_kind(kind))), False)

    def test_another_value(self):
        for at, (kind, values, term, size) in enumerate(self.rows):
            for other in (FAULT, ("num", 123), ("row", (("num", 123),)), ("tag", "u", ()), ("left", 0)):
                for k in range(2):
                    told = values[:k] + (other,) + values[k + 1:]
                    if told != values:
                        self.assertIs(self.holds(self.another(at, values=told)), False)
            for told in ((), values[:1], values + values[:1], values[::-1], (FAULT, FAULT)):
                if told != values:
                    self.assertIs(self.holds(self.another(at, values=told)), False)

    def test_another_term(self):
        for text, others in (
            ("x", ("r", "0", "q", "(+ x 0)", "?1")), ("0", ("1", "2", "x", "(row)")), ("(row)", ("r", "(row 1)", "0")),
            ("(first r)", ("(others r)", "(first x)", "(long r)", "(let q r (first q))")),
            ("(+ x x)", ("(+ x 1)", "(* x x)", "(* x 2)", "(+ x q)", "(+ x ?1)", "(+ x (row))", "(u:)", "(t: x)")),
            ("(more x (row))", ("(row x)", "(more x r)", "(more (row) x)", "(more 0 (row))")),
        ):
            for other in others:
                self.assertIs(self.holds(self.another(self.at(text), term=read_term(other))), False, (text, other))

    def test_a_number_that_is_not_told_and_a_name_that_is_not_at_hand(self):
        self.assertIs(self.holds(self.rows[:1] + (row_of("num", "7 7", "7", 1),) + self.rows[1:]), False)
        self.assertIs(self.holds(self.rows[:1] + (row_of("num", "7 7", "q", 1),) + self.rows[1:]), False)
        self.assertIs(self.holds(self.rows + (row_of("num", "9 10", "(+ x 7)", 3),)), False)
        self.assertIs(self.holds(self.rows + (row_of("num", "9 10", "(+ x q)", 3),)), False)

    def test_forms_that_are_none_of_a_searchs(self):
        for kind, values, term, size in (
            ("num", "8 8", "(let q 8 q)", 3), ("num", "8 8", "(call f x r)", 3), ("num", "8 8", "?1", 1),
            ("(row num)", "[2] [3]", "(row x)", 2), ("(row num)", "[2_2] [3_3]", "(row x x)", 3),
            ("num", "11 1", "(fold r a b 0 (+ a b))", 6), ("num", "8 8", "(match r (u 1))", 3),
            ("num", "2 3", "(two: x x)", 3), ("num", "8 8", "(no: x x)", 3), ("num", "8 8", "(two: x)", 2),
        ):
            for at in (1, len(self.rows)):
                self.assertIs(self.holds(self.rows[:at] + (row_of(kind, values, term, size),) + self.rows[at:]), False)

    def test_sizes_that_fall(self):
        first = [at for at, row in enumerate(self.rows) if row[3] == 2][0]
        rows = self.rows[:first - 1] + (self.rows[first], self.rows[first - 1]) + self.rows[first + 1:]
        self.assertIs(self.holds(rows), False)
        self.assertIs(self.holds(self.rows[::-1]), False)

    def test_a_row_that_meets_all_musts(self):
        for kind, values, term, size in self.rows:
            musts = [(n, around, value) for (n, around, thing), value in zip(self.musts, values)]
            met = kind == "num" and FAULT not in values
            if FAULT not in values:
                self.assertIs(self.holds(self.rows, musts=musts), not met, term)
        self.assertIs(self.holds(self.rows, musts=[(n, around, None) for n, around, thing in self.musts]), False)

    def test_another_size_handed_in(self):
        for size in (0, 1, 2, 4):
            self.assertIs(self.holds(self.rows, size=size), False)

    def test_other_musts_and_numbers(self):
        for each in (["2 [5_6] to 77"], ["2 [5_6] to 77", "3 [1] to 99", "3 [1] to 99"],
                     ["3 [1] to 99", "2 [5_6] to 77"], ["2 [5_6] to 77", "3 [2] to 99"]):
            self.assertIs(self.holds(self.rows, musts=[must_of("xr", text) for text in each]), False)
        # The same around, and wanted things that none of the terms tells: the same terms are none.
        self.assertIs(self.holds(self.rows, musts=[must_of("xr", "2 [5_6] to 78"), must_of("xr", "3 [1] to 98")]), True)
        for numbers in ((), (0,), (1,), (0, 1, 7), (0, 2)):
            self.assertIs(self.holds(self.rows, numbers=numbers), False)


class Faults(Asking):
    MUSTS = ("1 [] to 77", "2 [] to 78")
    NUMBERS = (0,)
    SIZE = 4

    def test_a_part_that_is_a_fault_at_all_musts(self):
        self.assertIs(self.holds(self.rows), True)
        at = self.at("x")
        for other in ("(if x x (first r))", "(if x x (: x 0))", "(if x x (first (others r)))"):
            # The term tells what the row says, has its kind and size, but isn't one of a search.
            rows = self.another(at, term=read_term(other), size=len(other.replace("(", "").split()))
            self.assertIs(self.holds(rows, size=6), False)
        values = (("num", 1), ("num", 2))
        rows = self.rows[:at] + self.rows[at + 1:] + (("num", values, read_term("(if x x (first r))"), 5),)
        self.assertIs(self.holds(rows, size=5), False)

    def test_rows_of_faults_alone(self):
        self.assertFalse([row for row in self.rows if FAULT in row[1]])
        self.assertIs(self.holds(self.rows + (row_of("num", "fault fault", "(: x (- x x))", 5),), size=5), False)
        first = [at for at, row in enumerate(self.rows) if row[3] == 3][0]
        for row in (row_of("num", "fault fault", "(first r)", 2), row_of("(row num)", "fault fault", "(others r)", 2)):
            self.assertIs(self.holds(self.rows[:first] + (row,) + self.rows[first:]), False)


class EachForm(Asking):
    """A paper in which a term of one form alone is left out does not hold."""

    TEXT = KINDS + "def f (x num) (r (row p)) (q k) = (+ x ?1)"
    MUSTS = ("0 [(two_7_7)] (t_4) to 77", "2 [] (t_9) to 99")
    NUMBERS = ()
    SIZE = 4

    def setUp(self):
        self.program = read_program(self.TEXT)
        self.musts = [must_of("xrq", each) for each in self.MUSTS]
        self.rows = searched(self.program, 1, self.musts, self.NUMBERS, self.SIZE, 400)[1]

    def test_each_sort_is_there_and_needed(self):
        self.assertIs(self.holds(self.rows), True)
        forms = {}
        for at, row in enumerate(self.rows):
            forms.setdefault((row[2][0], row[2][1] if row[2][0] in ("op", "tag") else ""), at)
        self.assertGreaterEqual(set(forms), {
            ("name", ""), ("row", ""), ("more", ""), ("first", ""), ("others", ""), ("long", ""), ("if", ""),
            ("tag", "two"), ("tag", "t"), ("tag", "u"), ("tag", "w"), ("op", "+"), ("op", "-")})
        for at in forms.values():
            self.assertIs(self.holds(self.rows[:at] + self.rows[at + 1:]), False, self.rows[at])


class BySeeds(unittest.TestCase):
    def changed(self, rand, rows, brute):
        rows = list(rows)
        at = rand.randrange(len(rows))
        kind, values, term, size = rows[at]
        deed = rand.randrange(8)
        if deed == 0:
            del rows[at]
        elif deed == 1:
            rows.insert(at, rows[rand.randrange(len(rows))])
        elif deed == 2:
            rows[at] = (rand.choice(brute.kinds), values, term, size)
        elif deed == 3:
            rows[at] = (kind, values, term, size + rand.choice((-1, 1)))
        elif deed == 4:
            rows[at] = (kind, rand.choice(rows)[1], term, size)
        elif deed == 5:
            rows[at] = (kind, values, rand.choice(rows)[2], size)
        elif deed == 6:
            far = rand.randrange(len(rows))
            rows[at], rows[far] = rows[far], rows[at]
        else:
            # Another term of a search that tells the same, or one of another size that does.
            others = [(other, own) for (each, own), terms in brute.terms.items() if each == kind
                      for other, told in terms.items() if told == values]
            other, own = rand.choice(others)
            rows[at] = (kind, values, other, rand.choice((size, own)))
            if rand.randrange(2):
                rows = sorted(rows, key=lambda row: row[3])
        return tuple(rows)

    def test_as_word_by_word(self):
        rand = seeded(202)
        seen = {True: 0, False: 0}
        for program, n, wanted, numbers in searches_to_do(203, 120):
            size = rand.randint(1, 3)
            told = outcome(searched, program, n, wanted, numbers, size, 60)
            if told[0] != "told":
                continue
            size = size if told[1][0] == "none" else told[1][2] - 1
            rows = told[1][-1]
            brute = BruteSearch(program, n, wanted, numbers, size)
            for k in range(25 if rows else 0):
                other = self.changed(rand, rows, brute)
                holds = brute.paper_holds(size, other)
                self.assertIs(paper_holds(program, n, wanted, numbers, size, other), holds, (program, rows, other))
                seen[holds] += 1
        self.assertGreater(min(seen.values()), 100, seen)


if __name__ == "__main__":
    unittest.main()
