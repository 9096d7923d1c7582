import unittest

from nofall import errors
from nofall.errors import (FallError, NoBack, NoOffers, NoOrder, NoPlace, NoRow, NoSet, NoText, NoTie, NoWeb,
                           TooMany)

REFUSALS = [NoWeb, NoPlace, NoTie, NoSet, NoOffers, TooMany, NoBack, NoOrder, NoText, NoRow]


class ErrorsTest(unittest.TestCase):
    def test_names(self):
        for refusal in REFUSALS + [FallError]:
            self.assertIs(getattr(errors, refusal.__name__), refusal)

    def test_fall_error_stands_under_value_error(self):
        self.assertEqual(FallError.__bases__, (ValueError,))

    def test_each_refusal_stands_under_fall_error_alone(self):
        for refusal in REFUSALS:
            self.assertEqual(refusal.__bases__, (FallError,))

    def test_no_refusal_stands_under_another_one(self):
        for one in REFUSALS:
            for other in REFUSALS:
                self.assertEqual(issubclass(one, other), one is other)

    def test_refusals_are_taken_as_fall_error_and_as_value_error(self):
        for refusal in REFUSALS:
            for wider in (refusal, FallError, ValueError):
                with self.assertRaises(wider):
                    raise refusal(3) if refusal is NoText else refusal("words")

    def test_no_text_has_the_line(self):
        for line in (0, 1, 41):
            self.assertEqual(NoText(line).line, line)
            with self.assertRaises(NoText) as caught:
                raise NoText(line)
            self.assertEqual(caught.exception.line, line)


if __name__ == "__main__":
    unittest.main()
