import unittest

from markedties.combs import comb_marks, is_comb
from markedties.errors import NoComb
from markedties.marks import bound, is_good
from markedties.trees import Tree
from tests.shapes import BRANCHED, check_refusal, handed, near_lists, plain_bounds, plainly_good, renumbered
from tests.shapes import row, spider, star, trees

# How many shapes of combs there are of 1, 2, 3 places and so on, and how many shapes of trees.
COMB_SHAPES = [1, 1, 1, 2, 3, 6, 10, 20, 36, 72, 136, 272]
TREE_SHAPES = [1, 1, 1, 2, 3, 6, 11, 23, 47, 106, 235, 551]

# Four arms of two places each, and a spider whose arms bear more.
WIDE = [(0, 1), (0, 3), (0, 5), (0, 7), (1, 2), (3, 4), (5, 6), (7, 8)]
FULL = [(0, 1), (0, 3), (0, 5), (1, 2), (3, 4), (5, 6), (5, 7), (5, 8), (8, 9), (9, 10), (9, 11)]


def plainly_comb(tree):
    near = near_lists(tree)
    inner = [place for place in range(tree.many) if len(near[place]) > 1]
    return all(sum(1 for other in near[place] if other in inner) < 3 for place in inner)


class IsCombTest(unittest.TestCase):
    def check_comb(self, tree, awaited):
        with self.subTest(many=tree.many, ties=tree.ties):
            self.assertIs(is_comb(tree), awaited)

    def test_rows_and_stars(self):
        for many in range(1, 13):
            self.check_comb(row(many), True)
            self.check_comb(star(many), True)

    def test_others(self):
        self.check_comb(Tree(6, BRANCHED), True)
        self.check_comb(Tree(8, [(0, 1), (0, 4), (0, 5), (1, 2), (1, 6), (2, 3), (2, 7)]), True)

    def test_least_that_is_none(self):
        self.check_comb(spider(), False)
        self.check_comb(renumbered(spider(), [6, 0, 1, 2, 3, 4, 5]), False)
        self.check_comb(renumbered(spider(), [3, 0, 6, 1, 5, 2, 4]), False)

    def test_greater_that_are_none(self):
        self.check_comb(Tree(9, WIDE), False)
        self.check_comb(Tree(12, FULL), False)

    def test_all_of_up_to_six_places(self):
        for many in range(1, 7):
            for tree in trees(many):
                self.check_comb(tree, True)

    def test_every_shape(self):
        for many in range(1, 13):
            for tree in trees(many):
                self.check_comb(tree, plainly_comb(tree))

    def test_as_many_shapes_as_there_are(self):
        for many in range(1, 13):
            with self.subTest(many=many):
                told = [is_comb(tree) for tree in trees(many)]
                self.assertEqual(len(told), 3 * TREE_SHAPES[many - 1])
                self.assertEqual(told.count(True), 3 * COMB_SHAPES[many - 1])


class CombMarksTest(unittest.TestCase):
    def test_good_marks_with_a_bound(self):
        for many in range(1, 13):
            for tree in trees(many):
                if plainly_comb(tree):
                    with self.subTest(many=many, ties=tree.ties):
                        told = comb_marks(tree)
                        self.assertIs(type(told), list)
                        self.assertTrue(plainly_good(tree, told))
                        self.assertEqual(len(plain_bounds(tree, told)), 1)
                        self.assertIs(is_good(tree, told), True)
                        self.assertEqual([bound(tree, told)], plain_bounds(tree, told))

    def test_no_comb(self):
        for many in range(7, 13):
            for tree in trees(many):
                if not plainly_comb(tree):
                    with self.subTest(many=many, ties=tree.ties):
                        check_refusal(self, NoComb, comb_marks, tree)

    def test_change_of_a_told_list_is_not_seen(self):
        for tree in (Tree(1, []), row(2), row(7), star(12), Tree(6, BRANCHED)):
            with self.subTest(many=tree.many, ties=tree.ties):
                told = comb_marks(tree)
                before = list(told)
                told[0] = 99
                told.append(7)
                self.assertEqual(comb_marks(tree), before)
                self.assertIsNot(comb_marks(tree), comb_marks(tree))

    def test_what_is_handed_in_stays(self):
        for tree in (Tree(1, []), row(12), star(12), Tree(6, BRANCHED), spider(), Tree(12, FULL)):
            with self.subTest(many=tree.many, ties=tree.ties):
                before, held = handed(tree), tree.ties
                if is_comb(tree):
                    comb_marks(tree)
                else:
                    check_refusal(self, NoComb, comb_marks, tree)
                self.assertEqual(handed(tree), before)
                self.assertIs(tree.ties, held)


if __name__ == "__main__":
    unittest.main()
