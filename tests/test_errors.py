"""The refusals of DOC.md's interface, and [2] on how they are made."""

import unittest

from balconyrow import errors

REFUSALS = (
    ("Outside", ValueError, "who"),
    ("Unlike", ValueError, None),
    ("NoView", ValueError, "who"),
    ("Known", ValueError, "who"),
    ("BadText", ValueError, "at"),
    ("BadRow", ValueError, "number"),
    ("NoSide", ValueError, "side"),
    ("NoOne", LookupError, "who"),
    ("NoPlace", LookupError, "place"),
    ("NoRow", LookupError, "number"),
    ("NoFloor", LookupError, "floor"),
    ("NoDeed", LookupError, "many"),
    ("Held", RuntimeError, "who"),
    ("Barred", RuntimeError, "who"),
    ("Seen", RuntimeError, "place"),
    ("Stands", RuntimeError, "floor"),
    ("Last", RuntimeError, None),
    ("TooMany", OverflowError, "many"),
)

# A number of more figures than Python writes out must not keep a refusal from being made.
FIELDS = (0, 7, -3, 10 ** 5000, "left", "", None, True, (1, 2), [3, [4]])


class Refusals(unittest.TestCase):
    def test_each_is_defined_in_errors(self):
        for name, _, _ in REFUSALS:
            self.assertEqual(getattr(errors, name).__module__, "balconyrow.errors")
            self.assertEqual(getattr(errors, name).__name__, name)

    def test_each_stands_straight_under_its_base(self):
        for name, base, _ in REFUSALS:
            self.assertEqual(getattr(errors, name).__bases__, (base,), name)

    def test_none_stands_under_another(self):
        for name, _, _ in REFUSALS:
            for other, _, _ in REFUSALS:
                under = issubclass(getattr(errors, name), getattr(errors, other))
                self.assertEqual(under, name == other, (name, other))

    def test_the_field_by_place_and_by_name(self):
        for name, _, field in REFUSALS:
            if field is None:
                continue
            refusal = getattr(errors, name)
            for told in FIELDS:
                self.assertIs(getattr(refusal(told), field), told, name)
                self.assertIs(getattr(refusal(**{field: told}), field), told, name)

    def test_those_without_a_field(self):
        for refusal in (errors.Unlike, errors.Last):
            self.assertEqual(vars(refusal()), {})

    def test_each_is_raised_and_caught_by_its_base(self):
        for name, base, field in REFUSALS:
            told = () if field is None else (5,)
            with self.assertRaises(base) as caught:
                raise getattr(errors, name)(*told)
            self.assertIs(type(caught.exception), getattr(errors, name))


if __name__ == "__main__":
    unittest.main()
