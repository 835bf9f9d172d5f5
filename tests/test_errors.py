import unittest

from sketchbounds.errors import BadText, KeepError, OutOfReach, TooFine, TooManyOff, Unlike

REFUSALS = (Unlike, TooFine, OutOfReach, TooManyOff, BadText)


class ErrorsTest(unittest.TestCase):
    def test_keep_error_is_a_value_error(self):
        self.assertEqual(KeepError.__bases__, (ValueError,))

    def test_each_refusal_stands_straight_under_keep_error(self):
        for refusal in REFUSALS:
            self.assertEqual(refusal.__bases__, (KeepError,))

    def test_no_refusal_stands_under_another(self):
        for refusal in REFUSALS:
            above = [other for other in REFUSALS if issubclass(refusal, other)]
            self.assertEqual(above, [refusal])

    def test_the_classes_have_their_names(self):
        names = [refusal.__name__ for refusal in REFUSALS]
        self.assertEqual(names, ["Unlike", "TooFine", "OutOfReach", "TooManyOff", "BadText"])

    def test_each_refusal_is_caught_as_keep_error_and_as_value_error(self):
        for refusal in (Unlike, TooFine, OutOfReach, TooManyOff):
            for caught in (refusal, KeepError, ValueError):
                with self.assertRaises(caught):
                    raise refusal("words")

    def test_bad_text_has_the_field_line(self):
        for line in (1, 2, 9, 10 ** 30):
            with self.assertRaises(KeepError) as caught:
                raise BadText(line)
            self.assertEqual(caught.exception.line, line)
            self.assertIs(type(caught.exception.line), int)

    def test_each_bad_text_has_its_own_line(self):
        one, other = BadText(3), BadText(4)
        self.assertEqual((one.line, other.line), (3, 4))

    def test_the_line_stays_out_of_the_words(self):
        self.assertNotIn("7", str(BadText(7)))


if __name__ == "__main__":
    unittest.main()
