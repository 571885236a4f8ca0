import unittest

from gapwork.errors import NoGap
from gapwork.programs import at_hand, gaps
from tests.helper import make_program, make_term, seeded, slow_inner, slow_parts

G = [("gap", n) for n in range(10)]


def one_def(params, term):
    return ((), (("f", tuple((name, "num") for name in params), term),))


def slow_at_hand(program, n):
    """Goes down to the gap by recursion, keeping all that is bound, and then leaves out what is bound anew nearer."""
    def down(term, names):
        if term == ("gap", n):
            return names
        ways = []
        if term[0] == "match":
            ways = [(term[1], [])] + [(arm[2], list(arm[1])) for arm in term[2]]
        elif term[0] == "let":
            ways = [(term[2], []), (term[3], [term[1]])]
        elif term[0] == "fold":
            ways = [(term[1], []), (term[4], []), (term[5], [term[2], term[3]])]
        else:
            ways = [(inner, []) for inner in slow_inner(term)]
        for inner, more in ways:
            found = down(inner, names + more)
            if found is not None:
                return found
        return None

    for name, params, term in program[1]:
        found = down(term, [param for param, kind in params])
        if found is not None:
            return tuple(x for k, x in enumerate(found) if x not in found[k + 1:])
    return None


class Gaps(unittest.TestCase):
    def test_by_hand(self):
        program = (
            (("k", (("t", ("num",)),)),),
            (
                ("f", (("x", ("open", 2)), ("y", "num"), ("z", ("row", ("row", ("open", 0))))),
                 ("if", G[2], ("match", G[5], (("t", ("a",), G[3]),)), ("fold", G[1], "a", "b", G[9], G[4]))),
                ("g", (), ("num", 1)),
                ("h", (("x", ("kind", "k")), ("y", ("row", ("open", 1)))), ("call", "f", (G[0], G[8], G[7]))),
            ),
        )
        self.assertEqual(gaps(program), ([2, 5, 3, 1, 9, 4, 0, 8, 7], [2, 0, 1]))

    def test_none(self):
        self.assertEqual(gaps(one_def(["x"], ("name", "x"))), ([], []))

    def test_of_one_number(self):
        program = ((), (("f", (("x", ("open", 3)),), G[3]),))
        self.assertEqual(gaps(program), ([3], [3]))

    def test_numbers_at_the_edges(self):
        program = ((), (("f", (("x", ("open", 99)), ("y", ("open", 0))), ("row", (("gap", 99), ("gap", 0)))),))
        self.assertEqual(gaps(program), ([99, 0], [99, 0]))

    def test_by_seeds(self):
        rand = seeded(31)
        for k in range(500):
            program = make_program(rand)
            of_terms = [part[1] for name, params, term in program[1] for part in slow_parts(term) if part[0] == "gap"]
            of_kinds = []
            for name, params, term in program[1]:
                for param, kind in params:
                    while kind[0] == "row":
                        kind = kind[1]
                    if kind[0] == "open":
                        of_kinds.append(kind[1])
            self.assertEqual(gaps(program), (of_terms, of_kinds))

    def test_the_lists_are_the_askers_own(self):
        program = ((), (("f", (("x", ("open", 4)), ("y", ("open", 1))), ("row", (G[6], G[2]))),))
        kept = repr(program)
        told = gaps(program)
        self.assertIs(type(told), tuple)
        self.assertEqual([type(each) for each in told], [list, list])
        told[0].append(1)
        told[0].reverse()
        told[1].clear()
        self.assertEqual(gaps(program), ([6, 2], [4, 1]))
        self.assertEqual(repr(program), kept)


class AtHand(unittest.TestCase):
    def tell(self, program, n, names):
        told = at_hand(program, n)
        self.assertIs(type(told), tuple)
        self.assertEqual(told, tuple(names))

    def test_params(self):
        self.tell(one_def([], G[0]), 0, [])
        self.tell(one_def(["c", "a", "b"], ("row", (("num", 1), G[0]))), 0, ["c", "a", "b"])

    def test_a_let_binds_behind_alone(self):
        program = one_def(["a", "b"], ("let", "x", G[1], ("more", G[0], ("name", "x"))))
        self.tell(program, 1, ["a", "b"])
        self.tell(program, 0, ["a", "b", "x"])

    def test_an_arm_binds_in_its_own_term_alone(self):
        arms = (("t", ("x", "y"), G[1]), ("u", (), G[2]), ("v", ("z",), G[3]))
        program = one_def(["a"], ("match", G[0], arms))
        for n, names in enumerate((["a"], ["a", "x", "y"], ["a"], ["a", "z"])):
            self.tell(program, n, names)

    def test_a_fold_binds_in_its_last_alone(self):
        program = one_def(["a"], ("fold", G[0], "x", "y", G[1], G[2]))
        for n, names in enumerate((["a"], ["a"], ["a", "x", "y"])):
            self.tell(program, n, names)

    def test_bound_anew_it_stands_where_it_was_bound_nearest(self):
        self.tell(one_def(["a", "b"], ("let", "a", ("num", 1), G[0])), 0, ["b", "a"])
        inner = ("let", "x", ("name", "x"), ("fold", G[1], "b", "x", G[2], ("match", G[3], (("t", ("a", "c"), G[4]),))))
        program = one_def(["a", "x", "b"], inner)
        self.tell(program, 1, ["a", "b", "x"])
        self.tell(program, 2, ["a", "b", "x"])
        self.tell(program, 3, ["a", "b", "x"])
        self.tell(program, 4, ["b", "x", "a", "c"])
        swapped = one_def(["x", "y", "z"], ("fold", ("row", ()), "y", "x", ("num", 0), G[7]))
        self.tell(swapped, 7, ["z", "y", "x"])

    def test_of_the_def_that_has_it(self):
        defs = (("f", (("a", "num"),), G[0]), ("g", (("b", "num"), ("a", "num")), G[5]), ("h", (), G[2]))
        for n, names in ((0, ["a"]), (5, ["b", "a"]), (2, [])):
            self.tell(((), defs), n, names)

    def test_a_gap_that_is_not_there(self):
        with self.assertRaises(NoGap) as taken:
            at_hand(one_def(["a"], G[0]), 1)
        self.assertEqual(taken.exception.number, 1)

    def test_by_seeds(self):
        rand = seeded(32)
        for k in range(300):
            program = make_program(rand)
            for n in gaps(program)[0]:
                self.tell(program, n, slow_at_hand(program, n))
                self.tell(program, n, slow_at_hand(program, n))

    def test_few_names_bound_anew_within_one_another(self):
        rand = seeded(33)
        orders = set()
        for k in range(1000):
            forms = ("let", "match", "fold", "gap", "gap", "row")
            term = make_term(rand, rand.randint(1, 40), forms=forms, names="abcd")
            program = one_def("abc"[:rand.randrange(4)], term)
            for n in gaps(program)[0]:
                wanted = slow_at_hand(program, n)
                orders.add(wanted)
                self.tell(program, n, wanted)
        # All orders of all choices of four names.
        self.assertEqual(len(orders), 65)


if __name__ == "__main__":
    unittest.main()
