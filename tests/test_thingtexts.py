import unittest

from gapwork import errors
from gapwork.thingtexts import read_thing, thing_text
from tests.helper import KEPT, is_thing_text, make_thing, otherwise, seeded, slow_thing_text

THINGS = (
    (("num", 0), "0"),
    (("num", 999999), "999999"),
    (("left", 0), "<0>"),
    (("left", 999999), "<999999>"),
    (("row", ()), "[]"),
    (("row", (("num", 1),)), "[1]"),
    (("row", (("num", 1), ("left", 2), ("row", ()))), "[1 <2> []]"),
    (("tag", "t", ()), "(t)"),
    (("tag", "num" + "s", ()), "(nums)"),
    (("tag", "op", (("num", 7), ("row", (("tag", "u", ()),)))), "(op 7 [(u)])"),
    (("tag", "t", (("tag", "t", (("left", 10),)), ("num", 3))), "(t (t <10>) 3)"),
)
NO_THINGS = ("", " ", "\n", "x", "num", "00", "01", "1000000", "0000001", "-1", "+1", "1 2", " 1", "1 ", "1\n", "\n1",
             "<>", "<", ">", "<a>", "<01>", "<00>", "<1000000>", "<-1>", "< 1>", "<1 >", "<1", "1>", "<<1>>", "<?1>",
             "?1", "'1", "[", "]", "[ ]", "[1", "1]", "[1]]", "[[1]", "[1  2]", "[ 1]", "[1 ]", "[1,2]", "[1\n2]",
             "[1 2)", "(t]", "[1](t)", "[1][2]", "[1]2", "2[1]", "[x]", "[1 x]", "()", "( t)", "(t )", "(t", "t)",
             "(1)", "(1 2)", "(t:)", "(t x)", "(t 1 x)", "(row)", "(row 1)", "(abcdefg)", "(T)", "((t))", "((t) 1)",
             "([] 1)", "(<1>)", "(t(u))", "(t u 1)", "(t 1)(u 1)", "(t 1) 2", "{1}", "\u0661", "\u00b2")


class Things(unittest.TestCase):
    def both_ways(self, thing, text):
        kept = repr(thing)
        for k in range(2):
            self.assertEqual(thing_text(thing), text)
            self.assertEqual(repr(read_thing(text)), kept)
        self.assertEqual(repr(thing), kept)

    def refused(self, text):
        for k in range(2):
            with self.assertRaises(errors.GapError, msg=repr(text)) as taken:
                read_thing(text)
            self.assertIs(type(taken.exception), errors.BadText)
            self.assertIsInstance(taken.exception, ValueError)
            self.assertEqual(taken.exception.at, 0)

    def test_by_hand(self):
        for thing, text in THINGS:
            self.both_ways(thing, text)

    def test_by_seeds(self):
        rand = seeded(61)
        for k in range(1500):
            thing = make_thing(rand, rand.randint(1, 30))
            self.both_ways(thing, slow_thing_text(thing))

    def test_no_things(self):
        for text in NO_THINGS:
            self.assertFalse(is_thing_text(text), repr(text))
            self.refused(text)

    def test_kept_words_are_no_tags(self):
        for word in KEPT:
            self.refused(f"({word})")
            self.refused(f"[1 ({word} 2)]")

    def test_otherwise(self):
        rand = seeded(62)
        right = 0
        for k in range(5000):
            text = otherwise(rand, slow_thing_text(make_thing(rand, rand.randint(1, 30))))
            if is_thing_text(text):
                right += 1
                self.assertEqual(thing_text(read_thing(text)), text)
            else:
                self.refused(text)
        self.assertGreater(right, 300)

    def test_great_and_deep_ones(self):
        wide = ("row", tuple(("num", k) for k in range(19999)))
        self.both_ways(wide, slow_thing_text(wide))
        deep = ("left", 3)
        for k in range(3000):
            deep = ("tag", "t", (("row", (deep,)),))
        text = thing_text(deep)
        self.assertEqual(text, "(t [" * 3000 + "<3>" + "])" * 3000)
        self.assertEqual(thing_text(read_thing(text)), text)


if __name__ == "__main__":
    unittest.main()
