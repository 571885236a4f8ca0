import unittest

from gapwork.terms import deep, gaps_in, kind_deep, parts
from tests.helper import CORES, FORMS, make_terms, rows_of, slow_deep, slow_parts

ONE, TWO, THREE = ("num", 1), ("name", "x"), ("gap", 3)
# Each form by hand, with what stands right in it.
BY_HAND = (
    (("num", 0), ()),
    (("name", "x"), ()),
    (("gap", 99), ()),
    (("op", "+", ONE, TWO), (ONE, TWO)),
    (("op", ":", TWO, ONE), (TWO, ONE)),
    (("row", ()), ()),
    (("row", (ONE, ONE, TWO, THREE, ONE)), (ONE, ONE, TWO, THREE, ONE)),
    (("more", ONE, TWO), (ONE, TWO)),
    (("first", TWO), (TWO,)),
    (("others", TWO), (TWO,)),
    (("long", TWO), (TWO,)),
    (("tag", "t", ()), ()),
    (("tag", "t", (THREE, ONE)), (THREE, ONE)),
    (("match", ONE, ()), (ONE,)),
    (("match", ONE, (("t", (), TWO), ("u", ("a", "b"), THREE))), (ONE, TWO, THREE)),
    (("if", ONE, TWO, THREE), (ONE, TWO, THREE)),
    (("let", "x", ONE, TWO), (ONE, TWO)),
    (("fold", ONE, "x", "y", TWO, THREE), (ONE, TWO, THREE)),
    (("call", "f", ()), ()),
    (("call", "f", (TWO, THREE, ONE)), (TWO, THREE, ONE)),
)


class Kinds(unittest.TestCase):
    def test_each_kind_within_rows(self):
        for core in CORES:
            for many in range(6):
                self.assertEqual(kind_deep(rows_of(core, many)), many)

    def test_a_very_deep_one(self):
        self.assertEqual(kind_deep(rows_of("num", 130)), 130)


class Terms(unittest.TestCase):
    def test_each_form_by_hand(self):
        self.assertEqual({term[0] for term, inner in BY_HAND}, set(FORMS))
        for term, inner in BY_HAND:
            self.assertEqual(parts(term), [term, *inner])
            self.assertEqual(deep(term), 1 if inner else 0)
            wanted = [part[1] for part in (term, *inner) if part[0] == "gap"]
            self.assertEqual(gaps_in(term), wanted)

    def test_forms_within_one_another(self):
        for outer, outer_inner in BY_HAND:
            for term, inner in BY_HAND:
                whole = ("more", outer, ("if", term, ("num", 5), outer))
                again = [outer, *outer_inner]
                wanted = [whole, *again, whole[2], term, *inner, ("num", 5), *again]
                self.assertEqual(parts(whole), wanted)
                self.assertEqual(deep(whole), 3 if inner or outer_inner else 2)

    def test_terms_by_seeds(self):
        deepest, seen = 0, set()
        for term in make_terms(21, 1500):
            wanted = slow_parts(term)
            deepest = max(deepest, slow_deep(term))
            seen.update(part[0] for part in wanted)
            self.assertEqual(parts(term), wanted)
            self.assertEqual(deep(term), slow_deep(term))
            self.assertEqual(gaps_in(term), [part[1] for part in wanted if part[0] == "gap"])
        self.assertGreaterEqual(deepest, 9)
        self.assertEqual(seen, set(FORMS))

    def test_gaps_alike_are_told_as_often_as_they_stand(self):
        for term in make_terms(22, 300, gaps=(4, 5)):
            self.assertEqual(gaps_in(term), [part[1] for part in slow_parts(term) if part[0] == "gap"])
        self.assertEqual(gaps_in(("row", (("gap", 4), ("gap", 0), ("gap", 4)))), [4, 0, 4])

    def test_lists_told_are_the_askers_own(self):
        for term in make_terms(23, 200, gaps=(0, 2)):
            kept = repr(term)
            for asked in (parts, gaps_in):
                first = asked(term)
                self.assertIs(type(first), list)
                wanted = list(first)
                first.append("else")
                first.reverse()
                self.assertEqual(asked(term), wanted)
                first.clear()
                self.assertEqual(asked(term), wanted)
            self.assertEqual(deep(term), deep(term))
            self.assertEqual(repr(term), kept)

    def test_a_very_deep_one(self):
        term = ("gap", 8)
        for k in range(3000):
            term = ("long", term)
        self.assertEqual(deep(term), 3000)
        self.assertEqual(len(parts(term)), 3001)
        self.assertEqual(gaps_in(term), [8])


if __name__ == "__main__":
    unittest.main()
