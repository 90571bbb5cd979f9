import unittest
from itertools import combinations

from markedties.errors import BadTree, TieError
from markedties.trees import Tree, neighbours
from tests.shapes import BRANCHED, row, row_ties, spider, star, star_ties

LARGE = [(0, 7), (1, 7), (2, 9), (3, 4), (3, 9), (4, 7), (5, 6), (5, 11), (6, 8), (6, 9), (8, 10)]


def accepted(many, ties):
    try:
        Tree(many, ties)
    except BadTree:
        return False
    return True


class TreeTest(unittest.TestCase):
    def test_fields(self):
        cases = [(1, []), (2, [(0, 1)]), (3, [(0, 2), (1, 2)]), (6, BRANCHED), (12, LARGE)]
        cases += [(many, row_ties(many)) for many in range(1, 13)]
        cases += [(many, star_ties(many)) for many in range(1, 13)]
        for many, ties in cases:
            with self.subTest(many=many, ties=ties):
                tree = Tree(many, ties)
                self.assertEqual(tree.many, many)
                self.assertIs(type(tree.ties), list)
                self.assertEqual(tree.ties, ties)

    def test_names_of_the_arguments(self):
        tree = Tree(many=3, ties=[(0, 1), (1, 2)])
        self.assertEqual((tree.many, tree.ties), (3, [(0, 1), (1, 2)]))

    def test_list_handed_in_stays(self):
        ties = list(LARGE)
        tree = Tree(12, ties)
        neighbours(tree, 7)
        self.assertEqual(ties, LARGE)

    def test_refused_list_stays(self):
        ties = [(1, 2), (0, 1)]
        with self.assertRaises(BadTree):
            Tree(3, ties)
        self.assertEqual(ties, [(1, 2), (0, 1)])

    def test_later_change_of_the_list_is_not_seen(self):
        ties = [(0, 1), (1, 2)]
        tree = Tree(3, ties)
        ties[1] = (0, 2)
        self.assertEqual(tree.ties, [(0, 1), (1, 2)])
        ties.clear()
        self.assertEqual(tree.ties, [(0, 1), (1, 2)])
        self.assertEqual(neighbours(tree, 1), [0, 2])

    def test_two_trees_of_one_list_share_none(self):
        ties = [(0, 1), (1, 2)]
        self.assertIsNot(Tree(3, ties).ties, Tree(3, ties).ties)

    def test_single_places_share_no_list(self):
        self.assertIsNot(Tree(1, []).ties, Tree(1, []).ties)


class RefusedTreeTest(unittest.TestCase):
    def check_refused(self, many, ties):
        with self.subTest(many=many, ties=ties):
            with self.assertRaises(BadTree) as caught:
                Tree(many, ties)
            self.assertIsInstance(caught.exception, TieError)
            self.assertIsInstance(caught.exception, ValueError)

    def test_too_few_places(self):
        self.check_refused(0, [])
        self.check_refused(0, [(0, 1)])
        self.check_refused(-1, [])

    def test_too_many_places(self):
        for many in (13, 14, 15):
            self.check_refused(many, row_ties(many))
            self.check_refused(many, star_ties(many))
            self.check_refused(many, [])

    def test_tie_too_many(self):
        self.check_refused(1, [(0, 1)])
        self.check_refused(1, [(0, 0)])
        self.check_refused(2, [(0, 1), (0, 1)])
        self.check_refused(3, [(0, 1), (0, 2), (1, 2)])
        self.check_refused(4, [(0, 1), (0, 3), (1, 2), (2, 3)])
        self.check_refused(12, [(0, 1), (0, 11)] + row_ties(12)[1:])

    def test_tie_too_few(self):
        self.check_refused(2, [])
        self.check_refused(3, [(0, 1)])
        self.check_refused(3, [])
        self.check_refused(12, row_ties(12)[:-1])
        self.check_refused(12, row_ties(12)[1:])

    def test_not_rising(self):
        self.check_refused(3, [(1, 2), (0, 1)])
        self.check_refused(3, [(0, 2), (0, 1)])
        self.check_refused(4, [(0, 1), (2, 3), (1, 2)])
        self.check_refused(4, [(0, 3), (1, 3), (0, 2)])
        self.check_refused(12, star_ties(12)[::-1])
        self.check_refused(12, row_ties(12)[1:] + [(0, 1)])

    def test_tie_twice_in_the_place_of_another(self):
        self.check_refused(3, [(0, 1), (0, 1)])
        self.check_refused(4, [(0, 1), (1, 2), (1, 2)])
        self.check_refused(12, [(0, 1)] + row_ties(12)[:-1])

    def test_tie_turned_about(self):
        self.check_refused(2, [(1, 0)])
        self.check_refused(3, [(0, 1), (2, 1)])
        self.check_refused(3, [(1, 0), (1, 2)])
        self.check_refused(4, [(0, 1), (1, 2), (3, 2)])

    def test_tie_of_a_place_with_itself(self):
        self.check_refused(2, [(0, 0)])
        self.check_refused(2, [(1, 1)])
        self.check_refused(3, [(0, 1), (1, 1)])
        self.check_refused(3, [(0, 1), (2, 2)])

    def test_tie_off_the_tree(self):
        self.check_refused(2, [(0, 2)])
        self.check_refused(2, [(1, 2)])
        self.check_refused(2, [(-1, 0)])
        self.check_refused(3, [(-1, 0), (0, 1)])
        self.check_refused(3, [(-1, 1), (0, 1)])
        self.check_refused(3, [(0, 1), (1, 3)])
        self.check_refused(3, [(0, 1), (3, 4)])
        self.check_refused(12, row_ties(12)[:-1] + [(10, 12)])

    def test_tie_of_more_or_fewer_places_than_two(self):
        self.check_refused(3, [(0, 1), (0, 1, 2)])
        self.check_refused(3, [(0, 1), (1, 2, 0)])
        self.check_refused(2, [(0,)])

    def test_ring_with_places_apart(self):
        self.check_refused(4, [(0, 1), (0, 2), (1, 2)])
        self.check_refused(4, [(1, 2), (1, 3), (2, 3)])
        self.check_refused(5, [(0, 1), (0, 3), (1, 2), (2, 3)])
        self.check_refused(5, [(0, 1), (2, 3), (2, 4), (3, 4)])
        self.check_refused(6, [(0, 1), (0, 2), (1, 2), (3, 4), (4, 5)])
        self.check_refused(12, sorted(row_ties(11) + [(0, 10)]))


class AllTreesTest(unittest.TestCase):
    def test_as_many_trees_as_there_are(self):
        # There are n ** (n - 2) trees of n numbered places.
        for many, awaited in [(1, 1), (2, 1), (3, 3), (4, 16), (5, 125), (6, 1296)]:
            with self.subTest(many=many):
                pairs = list(combinations(range(many), 2))
                found = [ties for ties in combinations(pairs, many - 1) if accepted(many, list(ties))]
                self.assertEqual(len(found), awaited)


class NeighboursTest(unittest.TestCase):
    def check_neighbours(self, tree, awaited):
        for place, near in enumerate(awaited):
            with self.subTest(many=tree.many, place=place):
                told = neighbours(tree, place)
                self.assertIs(type(told), list)
                self.assertEqual(told, near)

    def test_single_place(self):
        self.check_neighbours(Tree(1, []), [[]])

    def test_two_places(self):
        self.check_neighbours(Tree(2, [(0, 1)]), [[1], [0]])

    def test_branched(self):
        self.check_neighbours(Tree(6, BRANCHED), [[4], [4], [3, 5], [2, 4], [0, 1, 3], [2]])

    def test_spider(self):
        self.check_neighbours(spider(), [[1, 3, 5], [0, 2], [1], [0, 4], [3], [0, 6], [5]])

    def test_twelve_places(self):
        awaited = [[7], [7], [9], [4, 9], [3, 7], [6, 11], [5, 8, 9], [0, 1, 4], [6, 10], [2, 3, 6], [8], [5]]
        self.check_neighbours(Tree(12, LARGE), awaited)

    def test_rows(self):
        for many in range(2, 13):
            inner = [[place - 1, place + 1] for place in range(1, many - 1)]
            self.check_neighbours(row(many), [[1]] + inner + [[many - 2]])

    def test_stars(self):
        for many in range(2, 13):
            self.check_neighbours(star(many), [list(range(1, many))] + [[0]] * (many - 1))

    def test_star_about_the_last_place(self):
        tree = Tree(12, [(place, 11) for place in range(11)])
        self.check_neighbours(tree, [[11]] * 11 + [list(range(11))])

    def test_change_of_a_told_list_is_not_seen(self):
        tree = Tree(6, BRANCHED)
        told = neighbours(tree, 4)
        told.append(9)
        told[0] = 8
        self.assertEqual(neighbours(tree, 4), [0, 1, 3])
        self.assertEqual(tree.ties, BRANCHED)


if __name__ == "__main__":
    unittest.main()
