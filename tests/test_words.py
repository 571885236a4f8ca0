import unittest

from gapwork.words import WIDE, is_name
from tests.helper import KEPT, seeded

LETTERS = "abcdefghijklmnopqrstuvwxyz"


class Names(unittest.TestCase):
    def tell(self, text, wanted):
        self.assertIs(is_name(text), wanted, repr(text))

    def test_wide(self):
        self.assertEqual(WIDE, 1000000)
        self.assertIs(type(WIDE), int)

    def test_kept_words_are_none(self):
        self.assertEqual(len(KEPT), 18)
        for word in KEPT:
            self.tell(word, False)

    def test_kept_words_cut_or_longer_are_some(self):
        for word in KEPT:
            for text in (word[:-1], word[1:], word + "s", "s" + word, word + word):
                self.tell(text, 1 <= len(text) <= 6 and text not in KEPT)

    def test_great_letters_are_none(self):
        for word in KEPT + ["a", "abcdef"]:
            self.tell(word.upper(), False)
            self.tell(word.capitalize(), False)
            self.tell(word[:-1] + word[-1].upper(), False)

    def test_each_letter_by_itself(self):
        for letter in LETTERS:
            self.tell(letter, True)
            self.tell(letter.upper(), False)

    def test_how_long_they_may_be(self):
        for many in range(60):
            self.tell("q" * many, 1 <= many <= 6)
            self.tell((LETTERS * 3)[:many], 1 <= many <= 6)

    def test_other_signs_at_any_place(self):
        others = " \n\t\r()[]<>{}'?:;=+-*_.,!\"#0123456789`@~^|/\\&$"
        for sign in others + "\u00e4\u03b1\u0430\u00b2\x00":
            self.tell(sign, False)
            for word in ("a", "ab", "abcde"):
                for place in range(len(word) + 1):
                    self.tell(word[:place] + sign + word[place:], False)

    def test_texts_by_seeds(self):
        rand = seeded(11)
        for k in range(3000):
            text = "".join(rand.choice(LETTERS + "A1 ") for sign in range(rand.randrange(9)))
            wanted = 1 <= len(text) <= 6 and set(text) <= set(LETTERS) and text not in KEPT
            self.tell(text, wanted)
            self.tell(text, wanted)


if __name__ == "__main__":
    unittest.main()
