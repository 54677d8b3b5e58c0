import unittest

from countout import errors

NAMES = ["NoRing", "NoMany", "NoStep", "NoPlace", "NoCount", "NoHand", "TwiceTold", "TooMany"]


class Errors(unittest.TestCase):
    def test_any_refusal_is_a_value_error(self):
        self.assertEqual(errors.CountError.__bases__, (ValueError,))

    def test_each_is_straight_under_count_error(self):
        for name in NAMES:
            with self.subTest(name):
                self.assertEqual(getattr(errors, name).__bases__, (errors.CountError,))
                self.assertTrue(issubclass(getattr(errors, name), ValueError))

    def test_none_is_under_another(self):
        for name in NAMES:
            for other in NAMES:
                with self.subTest(name=name, other=other):
                    under = issubclass(getattr(errors, name), getattr(errors, other))
                    self.assertEqual(under, name == other)

    def test_each_is_raised_and_caught_by_its_name_and_as_any_refusal(self):
        for name in NAMES:
            error = getattr(errors, name)
            for caught in (error, errors.CountError, ValueError):
                with self.subTest(name=name, caught=caught):
                    with self.assertRaises(caught) as seen:
                        raise error("told so")
                    self.assertEqual(str(seen.exception), "told so")


if __name__ == "__main__":
    unittest.main()
