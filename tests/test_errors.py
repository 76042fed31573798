import unittest

from pagenames import errors

REFUSALS = ("NoPage", "BadName", "Taken", "Inside", "TooDeep", "NothingBack", "Ring", "TooMany", "NoText")


class Errors(unittest.TestCase):
    def test_any_refusal_is_a_page_error_and_that_a_value_error(self):
        self.assertEqual(errors.PageError.__bases__, (ValueError,))
        for name in REFUSALS:
            self.assertTrue(issubclass(getattr(errors, name), errors.PageError), name)

    def test_no_refusal_stands_below_another(self):
        for name in REFUSALS:
            for other in REFUSALS:
                if name != other:
                    self.assertFalse(issubclass(getattr(errors, name), getattr(errors, other)), (name, other))

    def test_each_refusal_can_be_raised_with_words(self):
        for name in REFUSALS + ("PageError",):
            with self.assertRaises(errors.PageError):
                raise getattr(errors, name)("words")


if __name__ == "__main__":
    unittest.main()
