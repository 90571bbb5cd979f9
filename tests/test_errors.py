import unittest

from markedties.combs import comb_marks
from markedties.errors import BadMarks, BadTree, NoBound, NoComb, NotGood, TieError
from markedties.joins import joined
from markedties.marks import bound, differences, is_good, turned
from markedties.rings import copies
from markedties.trees import Tree
from tests.shapes import REFUSALS, check_refusal, row, spider


class ErrorsTest(unittest.TestCase):
    def test_tie_error_stands_under_value_error(self):
        self.assertEqual(TieError.__bases__, (ValueError,))

    def test_each_stands_under_tie_error_alone(self):
        for refusal in REFUSALS:
            with self.subTest(refusal=refusal.__name__):
                self.assertEqual(refusal.__bases__, (TieError,))

    def test_none_stands_under_another(self):
        for refusal in REFUSALS:
            for other in REFUSALS:
                if refusal is not other:
                    with self.subTest(refusal=refusal.__name__, other=other.__name__):
                        self.assertFalse(issubclass(refusal, other))

    def test_names(self):
        names = [refusal.__name__ for refusal in REFUSALS]
        self.assertEqual(names, ["BadTree", "BadMarks", "NotGood", "NoBound", "NoComb"])

    def test_each_as_it_is_met(self):
        good, bad, alike = [0, 2, 1], [0, 2, 2], [0, 1, 2]
        cases = [(BadTree, Tree, 2, []), (BadTree, Tree, 13, row(12).ties + [(11, 12)]), (NoComb, comb_marks, spider())]
        cases += [(BadMarks, ask, row(3), bad) for ask in (differences, is_good, turned, bound, copies)]
        cases += [(NotGood, ask, row(3), alike) for ask in (bound, copies)]
        cases += [(BadMarks, joined, row(3), bad, row(3), alike), (BadMarks, joined, row(3), good, row(3), bad)]
        cases += [(NotGood, joined, row(3), alike, row(3), bad), (NotGood, joined, row(3), good, row(3), alike)]
        cases += [(NoBound, joined, row(5), [1, 2, 4, 0, 3], row(3), bad)]
        for refusal, ask, *handed_in in cases:
            with self.subTest(refusal=refusal.__name__, ask=ask.__name__):
                check_refusal(self, refusal, ask, *handed_in)


if __name__ == "__main__":
    unittest.main()
