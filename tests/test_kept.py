import unittest

from gapwork.errors import NoGap, TooLong, Twice
from gapwork.filled import filled
from gapwork.kept import Kept
from gapwork.kinds import look
from gapwork.reader import read_kind, read_program, read_term
from gapwork.runs import run
from gapwork.thingtexts import read_thing
from tests.helper import fillings, make_fillings, outcome, runs_to_do, seeded, slow_run

TEXT = """def f (x num) = (+ x ?3)
def g (y num) (r (row ?1)) = (row (+ y 1) (* ?1 (call f y)) (if ?2 (first r) ?4))"""


def made(text, *inputs, most=200):
    program = read_program(text)
    assert look(program)
    return Kept(program, [read_thing(each) for each in inputs], most)


def state(kept):
    return kept.program(), kept.outcome()


def put(kept, terms, kinds=""):
    return kept.fill(fillings(terms, read_term), fillings(kinds, read_kind))


class Filled(unittest.TestCase):
    def test_as_it_is_made(self):
        kept = made(TEXT, "5", "[6]")
        program = read_program(TEXT)
        told = run(program, (read_thing("5"), read_thing("[6]")), 200)
        self.assertEqual((told[0], len(told[1][1]), told[2]), ("sheet", 6, 2))
        self.assertEqual(state(kept), (program, told))

    def test_piece_by_piece(self):
        kept = made(TEXT, "5", "[6]")
        program = read_program(TEXT)
        inputs = (read_thing("5"), read_thing("[6]"))
        many = 2
        for terms, kinds, anew in (("1 (* y 2)", "", 1), ("", "1 num", 0), ("3 (+ x ?3)", "", 0), ("2 1; 4 7", "", 2),
                                   ("3 (long (row x))", "", 4)):
            self.assertEqual(put(kept, terms, kinds), anew, terms)
            program = filled(program, fillings(terms, read_term), fillings(kinds, read_kind))
            many += anew
            self.assertEqual(state(kept), (program, run(program, inputs, 200)))
            self.assertEqual(kept.outcome()[2], many)
        self.assertEqual(kept.outcome(), ("sheet", (read_thing("[6 110 6]"), ()), 9))

    def test_with_none(self):
        kept = made(TEXT, "5", "[6]")
        before = state(kept)
        self.assertEqual(kept.fill((), ()), 0)
        self.assertEqual(state(kept), before)
        # It is a filling, though, which can be taken back.
        self.assertIs(kept.back(), None)
        self.assertEqual(state(kept), before)
        with self.assertRaises(NoGap):
            kept.back()

    def test_a_fault(self):
        kept = made("def f (x num) = (row (+ x 1) (: x ?1) (+ x ?2))", "5")
        before = state(kept)
        self.assertEqual(put(kept, "2 (* x 2)"), 2)
        self.assertEqual(kept.outcome()[2], 3)
        between = state(kept)
        self.assertEqual(put(kept, "1 (- x (+ 2 ?7))"), 0)
        self.assertEqual(put(kept, "7 3"), 0)
        self.assertEqual(kept.outcome(), ("fault",))
        self.assertEqual(kept.program(),
                         read_program("def f (x num) = (row (+ x 1) (: x (- x (+ 2 3))) (+ x (* x 2)))"))
        kept.back()
        self.assertEqual(kept.outcome()[0], "sheet")
        kept.back()
        self.assertEqual(state(kept), between)
        kept.back()
        self.assertEqual(state(kept), before)

    def test_a_fault_as_it_is_made(self):
        kept = made("def f (x num) = (row (: x 0) ?1 (+ 1 ?2))", "5")
        self.assertEqual(kept.outcome(), ("fault",))
        self.assertEqual(put(kept, "1 (+ x ?1)"), 0)
        self.assertEqual(put(kept, "1 2; 2 3"), 0)
        self.assertEqual(state(kept), (read_program("def f (x num) = (row (: x 0) (+ x 2) (+ 1 3))"), ("fault",)))
        # Fillings are refused as ever.
        for terms, wanted in (("1 1", ("NoGap", 1)), ("9 1", ("NoGap", 9))):
            self.assertEqual(outcome(put, kept, terms), wanted)
        kept.back()
        self.assertEqual(outcome(put, kept, "1 ?2"), ("Twice", 2))
        self.assertEqual(state(kept), (read_program("def f (x num) = (row (: x 0) (+ x ?1) (+ 1 ?2))"), ("fault",)))


class Back(unittest.TestCase):
    def test_several_times(self):
        kept = made(TEXT, "5", "[6]")
        states = [state(kept)]
        for terms, kinds in (("1 (* y 2)", ""), ("3 (+ x ?3)", "1 num"), ("2 0", ""),
                             ("3 (long (row x)); 4 (+ 3 4)", "")):
            put(kept, terms, kinds)
            states.append(state(kept))
        while len(states) > 1:
            self.assertEqual(state(kept), states.pop())
            self.assertIs(kept.back(), None)
        self.assertEqual(state(kept), states[0])
        with self.assertRaises(NoGap) as taken:
            kept.back()
        self.assertEqual(taken.exception.number, -1)
        self.assertEqual(state(kept), states[0])

    def test_and_filled_otherwise(self):
        kept = made(TEXT, "5", "[6]")
        put(kept, "1 (* y (* 2 3))")
        first = kept.outcome()
        kept.back()
        self.assertEqual(put(kept, "1 (- y 2)"), 1)
        kept.back()
        self.assertEqual(put(kept, "1 (* y (* 2 3))"), 2)
        self.assertEqual(kept.outcome(), first)

    def test_none_there(self):
        for text in ("def f = 1", "def f = ?1", "def f = (: 1 0)"):
            kept = made(text)
            with self.assertRaises(NoGap) as taken:
                kept.back()
            self.assertEqual(taken.exception.number, -1)


class Refused(unittest.TestCase):
    def test_when_it_is_made(self):
        text = "def f = (+ 1 (+ 2 (+ 3 ?1)))"
        self.assertEqual(made(text, most=1).outcome()[2], 0)
        text = "def f = (+ (+ 2 (+ 3 1)) ?1)"
        self.assertEqual(made(text, most=2).outcome()[2], 2)
        with self.assertRaises(TooLong) as taken:
            made(text, most=1)
        self.assertEqual(taken.exception.most, 1)

    def test_what_is_refused_changes_nothing(self):
        kept = made("def f (x ?0) (y num) = (row (* y y) (+ y ?1) ?2)\ndef g (y num) = (call f 1 y)", "3", most=3)
        put(kept, "1 ?1")
        before = state(kept)
        for terms, kinds, wanted in (
            ("9 1", "", ("NoGap", 9)), ("1 1; 2 1; 1 1", "", ("Twice", 1)), ("1 ?2", "", ("Twice", 2)),
            ("1 1", "5 num", ("NoGap", 5)), ("9 1", "0 num; 0 num", ("Twice", 0)), ("1 (+ ?5 ?5)", "", ("Twice", 5)),
            ("2 (+ 1 (+ 2 (+ 3 (+ 4 5))))", "", ("TooLong", 3)), ("1 (+ 1 (+ 2 3)); 2 (+ 1 1)", "", ("TooLong", 3)),
            ("2 (+ 1 (+ 2 (+ 3 (+ 4 5)))); 9 1", "", ("NoGap", 9)),
        ):
            for again in range(2):
                self.assertEqual(outcome(put, kept, terms, kinds), wanted)
                self.assertEqual(state(kept), before)
        # Most is for each filling by itself.
        self.assertEqual(put(kept, "1 (+ 1 (+ 2 3))"), 3)
        self.assertEqual(put(kept, "2 (+ 1 (+ 2 (+ 3 4)))"), 3)
        self.assertEqual(kept.outcome(), ("sheet", (read_thing("[9 9 10]"), ()), 8))
        kept.back()
        kept.back()
        self.assertEqual(state(kept), before)

    def test_too_long_as_a_class(self):
        kept = made("def f = ?1", most=1)
        with self.assertRaises(TooLong) as taken:
            put(kept, "1 (+ 1 (+ 1 1))")
        self.assertEqual(taken.exception.most, 1)
        with self.assertRaises(Twice) as taken:
            put(kept, "1 1; 1 1")
        self.assertEqual(taken.exception.name, 1)


class Apart(unittest.TestCase):
    def test_a_list_of_inputs_that_is_changed(self):
        inputs = [read_thing("5"), read_thing("[6]")]
        kept, wanted = Kept(read_program(TEXT), inputs, 200), made(TEXT, "5", "[6]")
        inputs[0] = read_thing("7")
        inputs.clear()
        for terms in ("1 (* y 2)", "2 1; 3 (+ x 1)"):
            self.assertEqual(put(kept, terms), put(wanted, terms))
            self.assertEqual(state(kept), state(wanted))

    def test_two_by_turns(self):
        program, inputs = read_program(TEXT), (read_thing("5"), read_thing("[6]"))
        one, other = Kept(program, inputs, 200), Kept(program, inputs, 200)
        first = state(one)
        self.assertEqual(put(one, "1 (* y 2)"), 1)
        self.assertEqual(state(other), first)
        self.assertEqual(put(other, "2 0; 4 (+ y 1)"), 2)
        self.assertEqual(put(one, "2 0; 4 (+ y 1)"), 2)
        self.assertEqual(put(other, "1 (* y 2)"), 1)
        self.assertEqual(state(one), state(other))
        one.back()
        self.assertNotEqual(state(one), state(other))
        one.back()
        self.assertEqual(state(one), first)
        self.assertEqual(other.outcome()[2], 5)

    def test_asked_again(self):
        kept = made(TEXT, "5", "[6]")
        for again in range(3):
            self.assertEqual(state(kept), state(made(TEXT, "5", "[6]")))


class BySeeds(unittest.TestCase):
    def test_as_the_program_filled_is_run(self):
        rand = seeded(171)
        steps = backs = 0
        for program, inputs in runs_to_do(172, 500, gap=0.25):
            if slow_run(program, inputs, 200)[0] != "told":
                continue
            kept = Kept(program, list(inputs), 200)
            states = [state(kept)]
            for step in range(6):
                if len(states) > 1 and rand.random() < 0.3:
                    kept.back()
                    states.pop()
                    self.assertEqual(state(kept), states[-1])
                    backs += 1
                    continue
                before = kept.program()
                terms, kinds = make_fillings(rand, before, some=0.5, gap=rand.choice((0, 0.4)), own=0.2)
                wanted = slow_run(filled(before, terms, kinds), inputs, 200)
                told = outcome(kept.fill, terms, kinds)
                if told[0] == "TooLong":
                    self.assertEqual(state(kept), states[-1])
                    continue
                now = kept.outcome()
                doings = now[2] - states[-1][1][2] if now[0] == "sheet" else 0
                self.assertEqual((kept.program(), told), (filled(before, terms, kinds), ("told", doings)))
                if wanted[0] == "told":
                    self.assertEqual(now, wanted[1])
                states.append(state(kept))
                steps += 1
        self.assertGreater(steps, 1000)
        self.assertGreater(backs, 300)


if __name__ == "__main__":
    unittest.main()
