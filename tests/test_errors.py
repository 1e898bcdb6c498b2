import unittest

from tonemirror import errors


REFUSALS = ["NoHalf", "NoLeading", "NoText", "NoRow", "Unknown"]


class ErrorClasses(unittest.TestCase):
    def test_tone_error_stands_under_value_error(self):
        self.assertEqual(errors.ToneError.__bases__, (ValueError,))

    def test_each_refusal_stands_straight_under_tone_error(self):
        for name in REFUSALS:
            with self.subTest(name=name):
                self.assertEqual(getattr(errors, name).__bases__, (errors.ToneError,))

    def test_no_refusal_stands_under_another(self):
        classes = [getattr(errors, name) for name in REFUSALS]
        self.assertEqual(len(set(classes)), len(REFUSALS))
        for one in classes:
            for other in classes:
                self.assertEqual(issubclass(one, other), one is other)

    def test_each_is_taken_by_its_own_name_and_as_any_refusal(self):
        for name in REFUSALS:
            refusal = getattr(errors, name)
            for taken in (refusal, errors.ToneError, ValueError):
                with self.subTest(name=name, taken=taken.__name__):
                    with self.assertRaises(taken):
                        raise refusal("refused")

    def test_classes_bear_their_names(self):
        for name in REFUSALS + ["ToneError"]:
            self.assertEqual(getattr(errors, name).__name__, name)


if __name__ == "__main__":
    unittest.main()
