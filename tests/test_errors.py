import unittest

from markedties.errors import BadMarks, BadTree, NoBound, NoComb, NotGood, TieError

REFUSALS = [BadTree, BadMarks, NotGood, NoBound, NoComb]


class ErrorsTest(unittest.TestCase):
    def test_tie_error_stands_under_value_error(self):
        self.assertEqual(TieError.__bases__, (ValueError,))

    def test_each_stands_under_tie_error_alone(self):
        for refusal in REFUSALS:
            with self.subTest(refusal=refusal.__name__):
                self.assertEqual(refusal.__bases__, (TieError,))

    def test_none_stands_under_another(self):
        for refusal in REFUSALS:
            for other in REFUSALS:
                if refusal is not other:
                    with self.subTest(refusal=refusal.__name__, other=other.__name__):
                        self.assertFalse(issubclass(refusal, other))

    def test_names(self):
        names = [refusal.__name__ for refusal in REFUSALS]
        self.assertEqual(names, ["BadTree", "BadMarks", "NotGood", "NoBound", "NoComb"])


if __name__ == "__main__":
    unittest.main()
