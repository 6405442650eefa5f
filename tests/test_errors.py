"""The interface's errors: where each stands, and the fields they have."""

import unittest

from linecaster import errors

MADE_OF_AT = ("NoCase", "NoKeys")
MADE_OF_BY = ("Loose", "Tight")
MADE_OF_WORDS = ("NoBreak",)
MADE_OF_TEXT = ("TooMany", "NoCopy", "NoText", "NoNumber", "NoRow")
ALL = MADE_OF_AT + MADE_OF_BY + MADE_OF_WORDS + MADE_OF_TEXT


class Standing(unittest.TestCase):
    def test_caster_error_is_right_under_value_error(self):
        self.assertEqual(errors.CasterError.__bases__, (ValueError,))

    def test_each_is_right_under_caster_error(self):
        self.assertEqual(len(ALL), 10)
        for name in ALL:
            with self.subTest(name):
                self.assertEqual(getattr(errors, name).__bases__, (errors.CasterError,))

    def test_none_is_under_another(self):
        for name in ALL:
            for other in ALL:
                with self.subTest(name=name, other=other):
                    under = issubclass(getattr(errors, name), getattr(errors, other))
                    self.assertIs(under, name == other)


class Fields(unittest.TestCase):
    def look(self, names, field):
        for name in names:
            for value in (0, 1, 31, 2000):
                with self.subTest(name=name, value=value):
                    error = getattr(errors, name)(value)
                    self.assertIsInstance(error, ValueError)
                    self.assertEqual(getattr(error, field), value)
                    self.assertIs(type(getattr(error, field)), int)
                    self.assertEqual([own for own in ("at", "by", "words") if hasattr(error, own)], [field])

    def test_at(self):
        self.look(MADE_OF_AT, "at")

    def test_by(self):
        self.look(MADE_OF_BY, "by")

    def test_words(self):
        self.look(MADE_OF_WORDS, "words")

    def test_two_errors_keep_fields_of_their_own(self):
        first = errors.NoCase(1)
        errors.NoCase(2)
        self.assertEqual(first.at, 1)

    def test_the_others_are_made_of_a_text(self):
        for name in MADE_OF_TEXT + ("CasterError",):
            with self.subTest(name):
                error = getattr(errors, name)("words of its own")
                self.assertEqual(str(error), "words of its own")

    def test_they_can_be_raised_and_taken(self):
        for name in ALL:
            with self.subTest(name):
                with self.assertRaises(errors.CasterError):
                    raise getattr(errors, name)(3)


if __name__ == "__main__":
    unittest.main()
