import unittest

from gapwork.thingtexts import read_thing
from gapwork.things import closed, inner_things, label, same, with_lefts_put
from tests.helper import make_thing, seeded


def deep_thing(core, many):
    for k in range(many):
        core = ("row", (core,))
    return core


def slow_put(thing, puts):
    if thing[0] == "left":
        return puts[thing[1]]
    return tuple(tuple(slow_put(inner, puts) for inner in each) if isinstance(each, tuple) else each for each in thing)


class Things(unittest.TestCase):
    def test_what_is_right_in_them(self):
        for text, wanted, by_itself in (("5", "", ("num", 5)), ("<7>", "", ("left", 7)), ("[]", "", ("row", 0)),
                                        ("[1 <2>]", "1 <2>", ("row", 2)), ("(t)", "", ("tag", "t", 0)),
                                        ("(t [1])", "[1]", ("tag", "t", 1))):
            inner = tuple(read_thing(each) for each in wanted.split())
            self.assertEqual((inner_things(read_thing(text)), label(read_thing(text))), (inner, by_itself))

    def test_same(self):
        rand = seeded(141)
        things = [make_thing(rand, rand.randint(1, 4)) for k in range(150)]
        for one in things:
            for other in things:
                self.assertIs(same(one, other), one == other)
        self.assertIs(same(deep_thing(("num", 1), 5000), deep_thing(("num", 1), 5000)), True)
        self.assertIs(same(deep_thing(("num", 1), 5000), deep_thing(("num", 2), 5000)), False)
        self.assertIs(same(deep_thing(("num", 1), 5000), deep_thing(("num", 1), 4999)), False)

    def test_closed(self):
        rand = seeded(142)
        for k in range(500):
            thing = make_thing(rand, rand.randint(1, 8))
            self.assertIs(closed(thing), "left" not in repr(thing))
        self.assertIs(closed(deep_thing(("num", 1), 5000)), True)
        self.assertIs(closed(deep_thing(("left", 1), 5000)), False)

    def test_lefts_put(self):
        rand = seeded(143)
        puts = [read_thing("(t [<9>])")] + [("num", k) for k in range(200)]
        for k in range(500):
            thing = make_thing(rand, rand.randint(1, 8))
            self.assertEqual(with_lefts_put(thing, puts), slow_put(thing, puts))
        self.assertTrue(same(with_lefts_put(deep_thing(("left", 5), 5000), puts), deep_thing(("num", 4), 5000)))


if __name__ == "__main__":
    unittest.main()
