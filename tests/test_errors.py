"""The classes of skyprices.errors."""

import unittest

from skyprices import errors

PLAIN = (
    "NoDay", "NoPlan", "NoNumbers", "NoRests", "NoLost", "NoBlock", "NoWorth", "NoHour", "TooMany", "DayOver",
    "NoName", "NoPlace", "NoRow",
)


class ErrorsTest(unittest.TestCase):
    def test_sky_error_is_a_value_error(self):
        self.assertEqual(errors.SkyError.__bases__, (ValueError,))

    def test_each_refusal_stands_straight_under_sky_error(self):
        for name in PLAIN + ("NoText",):
            with self.subTest(name=name):
                kind = getattr(errors, name)
                self.assertEqual(kind.__bases__, (errors.SkyError,))
                self.assertEqual(kind.__name__, name)
                self.assertEqual(kind.__module__, "skyprices.errors")

    def test_no_other_classes(self):
        found = {name for name, thing in vars(errors).items() if isinstance(thing, type)}
        self.assertEqual(found, set(PLAIN) | {"NoText", "SkyError"})

    def test_each_is_raised_without_fields(self):
        for name in PLAIN:
            with self.subTest(name=name), self.assertRaises(errors.SkyError):
                raise getattr(errors, name)()

    def test_no_text_keeps_at(self):
        self.assertEqual(errors.NoText(3).at, 3)
        self.assertEqual(errors.NoText(0).at, 0)
        self.assertEqual(errors.NoText(at=2).at, 2)
        self.assertIsNone(errors.NoText(None).at)
        self.assertIsNone(errors.NoText().at)

    def test_no_text_keeps_at_when_raised(self):
        with self.assertRaises(ValueError) as caught:
            raise errors.NoText(5)
        self.assertIs(type(caught.exception), errors.NoText)
        self.assertEqual(caught.exception.at, 5)


if __name__ == "__main__":
    unittest.main()
