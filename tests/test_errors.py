"""The errors of the interface: their kinds, their fields, and that none stands under another."""

import unittest

from crowdsay import errors

# Each with its kind of Python's, its field's name and something to keep there.
WITH_FIELD = (
    ("NoCustom", ValueError, "fault", "shape"),
    ("NoMeeting", IndexError, "place", 3),
    ("TooMany", OverflowError, "most", 400),
    ("NoShare", ZeroDivisionError, "top", -7),
    ("NoText", ValueError, "line", 2),
    ("NoGate", KeyError, "word", "inn"),
    ("NoMark", LookupError, "number", 5),
    ("NoFolk", IndexError, "number", 12),
)
OF_A_TEXT = (
    ("NoKin", TypeError),
    ("NoSay", RuntimeError),
    ("NoTurn", RuntimeError),
    ("NoStand", RuntimeError),
    ("NoBody", LookupError),
    ("NoRow", ValueError),
)
KINDS = {name: kind for name, kind, *_ in WITH_FIELD + OF_A_TEXT}


class ErrorsTest(unittest.TestCase):
    def test_each_is_defined_here_right_under_its_kind(self):
        for name, kind in KINDS.items():
            with self.subTest(name):
                error = getattr(errors, name)
                self.assertEqual(error.__bases__, (kind,))
                self.assertEqual(error.__module__, "crowdsay.errors")
                self.assertEqual(error.__name__, name)

    def test_none_stands_under_another(self):
        for one in KINDS:
            for other in KINDS:
                if one != other:
                    with self.subTest(one=one, other=other):
                        self.assertFalse(issubclass(getattr(errors, one), getattr(errors, other)))

    def test_the_field_is_kept_by_place(self):
        for name, _, field, worth in WITH_FIELD:
            with self.subTest(name):
                self.assertEqual(getattr(getattr(errors, name)(worth), field), worth)

    def test_the_field_is_kept_by_name(self):
        for name, _, field, worth in WITH_FIELD:
            with self.subTest(name):
                self.assertEqual(getattr(getattr(errors, name)(**{field: worth}), field), worth)

    def test_a_field_that_is_nought_or_empty_is_kept(self):
        for name, _, field, worth in WITH_FIELD:
            empty = "" if isinstance(worth, str) else 0
            with self.subTest(name):
                kept = getattr(getattr(errors, name)(empty), field)
                self.assertEqual(kept, empty)
                self.assertIs(kept.__class__, empty.__class__)

    def test_two_of_one_class_keep_their_own_fields(self):
        for name, _, field, worth in WITH_FIELD:
            error = getattr(errors, name)
            one, other = error(worth), error(worth * 2)
            with self.subTest(name):
                self.assertEqual(getattr(one, field), worth)
                self.assertEqual(getattr(other, field), worth * 2)

    def test_the_ones_with_a_field_are_raised_and_caught_by_their_kinds(self):
        for name, kind, field, worth in WITH_FIELD:
            with self.subTest(name):
                with self.assertRaises(kind) as caught:
                    raise getattr(errors, name)(worth)
                self.assertEqual(getattr(caught.exception, field), worth)

    def test_the_others_are_made_of_a_text(self):
        for name, kind in OF_A_TEXT:
            for text in ("", "why it is refused"):
                with self.subTest(name, text=text):
                    with self.assertRaises(kind) as caught:
                        raise getattr(errors, name)(text)
                    self.assertIs(caught.exception.__class__, getattr(errors, name))


if __name__ == "__main__":
    unittest.main()
