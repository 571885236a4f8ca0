import unittest

from gapwork import errors

FIELDS = {"BadText": "at", "Twice": "name", "NoName": "name", "WrongCount": "name", "Clash": None,
          "NoGap": "number", "TooLong": "most", "TooMany": "most", "NoRow": None}
TEXTS = ("", "x", "?", "match", "two words", "Line\nfeed", "~" * 300)
NUMBERS = (0, 1, -1, 99, 1000000, -(10 ** 30), 10 ** 5000)


def made(name, value):
    refusal = getattr(errors, name)
    return refusal() if FIELDS[name] is None else refusal(value)


class TheRefusals(unittest.TestCase):
    def test_each_is_a_gap_error_and_a_value_error_and_none_of_the_others(self):
        self.assertTrue(issubclass(errors.GapError, ValueError))
        for name in FIELDS:
            error = made(name, 3)
            self.assertIsInstance(error, errors.GapError)
            self.assertIsInstance(error, ValueError)
            for other in FIELDS:
                self.assertEqual(isinstance(error, getattr(errors, other)), other == name, (name, other))

    def test_gap_error_is_none_of_them(self):
        for name in FIELDS:
            self.assertFalse(issubclass(errors.GapError, getattr(errors, name)))

    def test_the_field_keeps_what_it_was_made_with(self):
        for name, field in FIELDS.items():
            if field is not None:
                for value in TEXTS + NUMBERS:
                    kept = getattr(made(name, value), field)
                    self.assertEqual(kept, value)
                    self.assertIs(type(kept), type(value))

    def test_two_side_by_side_keep_each_its_own(self):
        for name, field in FIELDS.items():
            if field is not None:
                one, other = made(name, 1), made(name, "b")
                self.assertEqual((getattr(one, field), getattr(other, field)), (1, "b"))

    def test_each_is_made_of_just_what_stands_in_its_brackets(self):
        for name, field in FIELDS.items():
            if field is not None:
                self.assertRaises(TypeError, getattr(errors, name))

    def test_each_is_raised_and_taken_by_its_name(self):
        for name, field in FIELDS.items():
            with self.assertRaises(getattr(errors, name)) as taken:
                raise made(name, -1)
            if field is not None:
                self.assertEqual(getattr(taken.exception, field), -1)


if __name__ == "__main__":
    unittest.main()
