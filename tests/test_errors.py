import unittest

from flips import errors
from tests.helper import SEVEN, dice

FIELDS = {
    "NoText": ("at",),
    "Alike": ("one", "other"),
    "NoEnd": ("one", "other"),
    "NoThing": ("question",),
    "NoRow": ("row",),
    "NoName": ("name",),
}


def draw_for(rng, field):
    if field in ("row", "name"):
        return "".join(rng.choice("abc xyz~ 019") for _ in range(rng.randrange(1, 200)))
    return rng.randrange(10 ** rng.randrange(1, 41))


def made(name, things):
    return getattr(errors, name)(*things)


def drawn(rng, name):
    return [draw_for(rng, field) for field in FIELDS.get(name, ("row",))]


class Errors(unittest.TestCase):
    def test_fields_are_what_the_refusal_is_made_of(self):
        rng = dice("fields")
        for name, fields in FIELDS.items():
            for _ in range(50):
                things = drawn(rng, name)
                refusal = made(name, things)
                self.assertEqual([getattr(refusal, field) for field in fields], things)

    def test_no_table_is_made_of_a_text(self):
        self.assertIn("some words", str(errors.NoTable("some words")))

    def test_each_is_taken_as_the_base_and_as_value_error(self):
        rng = dice("taken")
        for name in SEVEN:
            for base in (errors.FlipError, ValueError, getattr(errors, name)):
                with self.assertRaises(base):
                    raise made(name, drawn(rng, name))

    def test_none_is_taken_as_another_one(self):
        rng = dice("apart")
        for name in SEVEN:
            refusal = made(name, drawn(rng, name))
            for other in SEVEN:
                self.assertEqual(isinstance(refusal, getattr(errors, other)), name == other)

    def test_each_stands_straight_under_the_base(self):
        self.assertEqual(errors.FlipError.__bases__, (ValueError,))
        for name in SEVEN:
            self.assertEqual(getattr(errors, name).__bases__, (errors.FlipError,))


if __name__ == "__main__":
    unittest.main()
