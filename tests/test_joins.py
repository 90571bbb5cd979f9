import unittest

from markedties.errors import BadMarks, BadTree, NoBound, NotGood
from markedties.joins import joined
from markedties.marks import bound, is_good
from markedties.search import markings
from markedties.trees import Tree
from tests.shapes import check_refusal, handed, plain_bounds, plain_markings, plainly_good
from tests.shapes import row, row_marks, spider, star, trees, wrong_marks

SPIDER_MARKS = [0, 1, 4, 5, 3, 6, 2]
NO_BOUND = [1, 2, 4, 0, 3]


def some(found):
    """The first, the last and the one in the middle."""
    return [found[k] for k in sorted({0, len(found) // 2, len(found) - 1})]


def firsts():
    """Trees of 1 to 6 places with good marks that have a bound."""
    cases = []
    for many in range(1, 7):
        for tree in trees(many):
            cases += [(tree, marks) for marks in some([one for one in plain_markings(tree) if plain_bounds(tree, one)])]
    return cases


def others():
    """Trees of 1 to 6 places with good marks, with a bound or without."""
    return [(tree, marks) for many in range(1, 7) for tree in trees(many) for marks in some(plain_markings(tree))]


class JoinedTest(unittest.TestCase):
    def check_told(self, told, many, ties, marks):
        self.assertIs(type(told), tuple)
        self.assertEqual(len(told), 2)
        self.assertIs(type(told[0]), Tree)
        self.assertIs(type(told[1]), list)
        self.assertEqual(told[0].many, many)
        self.assertEqual(told[0].ties, ties)
        self.assertEqual(told[1], marks)

    def test_single_places(self):
        self.check_told(joined(Tree(1, []), [0], Tree(1, []), [0]), 2, [(0, 1)], [0, 1])

    def test_single_place_first(self):
        self.check_told(joined(Tree(1, []), [0], row(3), [0, 2, 1]), 4, [(0, 2), (1, 2), (2, 3)], [0, 1, 3, 2])

    def test_single_place_behind(self):
        self.check_told(joined(row(3), [0, 2, 1], Tree(1, []), [0]), 4, [(0, 1), (1, 2), (2, 3)], [0, 3, 1, 2])
        self.check_told(joined(star(3), [0, 1, 2], Tree(1, []), [0]), 4, [(0, 1), (0, 2), (0, 3)], [0, 2, 3, 1])

    def test_two_rows(self):
        told = joined(row(4), [0, 3, 1, 2], row(3), [1, 0, 2])
        self.check_told(told, 7, [(0, 1), (1, 2), (2, 3), (2, 6), (4, 5), (5, 6)], [0, 6, 1, 5, 3, 2, 4])

    def test_tie_between_goes_among_the_others(self):
        told = joined(row(4), [2, 1, 3, 0], row(2), [1, 0])
        self.check_told(told, 6, [(0, 1), (1, 2), (1, 4), (2, 3), (4, 5)], [4, 1, 5, 0, 3, 2])

    def test_star_and_spider(self):
        told = joined(star(4), [3, 2, 1, 0], spider(), SPIDER_MARKS)
        ties = [(0, 1), (0, 2), (0, 3), (1, 9), (4, 5), (4, 7), (4, 9), (5, 6), (7, 8), (9, 10)]
        self.check_told(told, 11, ties, [10, 2, 1, 0, 3, 4, 7, 8, 6, 9, 5])

    def test_other_without_a_bound(self):
        told = joined(row(2), [0, 1], row(5), NO_BOUND)
        self.check_told(told, 7, [(0, 1), (0, 4), (2, 3), (3, 4), (4, 5), (5, 6)], [0, 6, 2, 3, 5, 1, 4])

    def check_joined(self, tree, marks, other, more):
        n, m, b = tree.many, other.many, plain_bounds(tree, marks)[0]
        told = joined(tree, marks, other, more)
        near = [place for place in range(n) if marks[place] == b]
        far = [n + place for place in range(m) if more[place] == m - 1]
        behind = [(low + n, high + n) for low, high in other.ties]
        ties = sorted(tree.ties + [(near[0], far[0])] + behind)
        awaited = [mark + m if mark > b else mark for mark in marks] + [mark + b + 1 for mark in more]
        self.check_told(told, n + m, ties, awaited)
        self.assertTrue(plainly_good(told[0], told[1]))
        self.assertIs(is_good(told[0], told[1]), True)

    def test_two_trees_of_up_to_six_places(self):
        behind = others()
        for k, (tree, marks) in enumerate(firsts()):
            # Each of the first ones meets some of the others; together they meet all of them.
            for other, more in behind[k % 5::5]:
                with self.subTest(ties=tree.ties, marks=marks, others=other.ties, more=more):
                    self.check_joined(tree, marks, other, more)

    def test_up_to_twelve_places(self):
        for many in range(1, 12):
            with self.subTest(many=many):
                self.check_joined(row(many), row_marks(many), star(12 - many), list(range(12 - many)))
                self.check_joined(star(many), list(range(many))[::-1], row(12 - many), row_marks(12 - many))

    def test_marks_are_among_all_good_marks(self):
        for n in range(1, 5):
            for m in range(1, 7 - n):
                with self.subTest(n=n, m=m):
                    tree, marks = joined(row(n), row_marks(n), star(m), list(range(m)))
                    self.assertIn(marks, markings(tree))

    def test_joined_tree_may_be_joined_on(self):
        other = joined(row(3), [0, 2, 1], row(2), [0, 1])
        self.check_joined(star(4), [0, 1, 2, 3], other[0], other[1])
        first = joined(star(2), [1, 0], star(3), [2, 1, 0])
        self.assertEqual(bound(first[0], first[1]), 2)
        self.check_joined(first[0], first[1], spider(), SPIDER_MARKS)

    def test_tree_joined_to_itself(self):
        tree, marks = row(4), [0, 3, 1, 2]
        told = joined(tree, marks, tree, marks)
        ties = [(0, 1), (1, 2), (2, 3), (2, 5), (4, 5), (5, 6), (6, 7)]
        self.check_told(told, 8, ties, [0, 7, 1, 6, 2, 5, 3, 4])
        self.assertEqual((tree.ties, marks), ([(0, 1), (1, 2), (2, 3)], [0, 3, 1, 2]))


class RefusedTest(unittest.TestCase):
    def check_refused(self, refusal, tree, marks, other, more):
        with self.subTest(ties=tree.ties, marks=marks, others=other.ties, more=more):
            before = (handed(tree), list(marks), handed(other), list(more))
            check_refusal(self, refusal, joined, tree, marks, other, more)
            self.assertEqual((handed(tree), marks, handed(other), more), before)

    def seconds(self):
        """Marks for a row of three places behind the first tree: good, no marks, not good."""
        return [[0, 2, 1], [0, 1], [1, 2, 3], [0, 2, 2], [0, 1, 2], [2, 1, 0]]

    def test_bad_marks_of_the_first(self):
        for more in self.seconds():
            for many in range(1, 7):
                for reason, marks in wrong_marks(many):
                    self.check_refused(BadMarks, row(many), marks, row(3), more)
                    self.check_refused(BadMarks, star(many), marks, row(3), more)

    def test_first_not_good(self):
        for more in self.seconds():
            self.check_refused(NotGood, row(3), [0, 1, 2], row(3), more)
            self.check_refused(NotGood, row(4), [0, 2, 1, 3], row(3), more)
            self.check_refused(NotGood, row(5), [0, 4, 2, 3, 1], row(3), more)
            self.check_refused(NotGood, star(6), [1, 0, 2, 3, 4, 5], row(3), more)

    def test_first_without_a_bound(self):
        for more in self.seconds():
            self.check_refused(NoBound, row(5), NO_BOUND, row(3), more)
            self.check_refused(NoBound, row(6), [1, 3, 4, 0, 5, 2], row(3), more)
            self.check_refused(NoBound, spider(), SPIDER_MARKS, row(3), more)

    def test_every_first_without_a_bound(self):
        for many in range(1, 7):
            for tree in trees(many):
                for marks in plain_markings(tree):
                    if not plain_bounds(tree, marks):
                        self.check_refused(NoBound, tree, marks, row(2), [0, 1])

    def test_bad_marks_of_the_other(self):
        for many in range(1, 7):
            for reason, more in wrong_marks(many):
                self.check_refused(BadMarks, row(4), [0, 3, 1, 2], row(many), more)
                self.check_refused(BadMarks, Tree(1, []), [0], star(many), more)

    def test_other_not_good(self):
        self.check_refused(NotGood, Tree(1, []), [0], row(3), [0, 1, 2])
        self.check_refused(NotGood, row(4), [0, 3, 1, 2], row(4), [0, 2, 1, 3])
        self.check_refused(NotGood, star(5), [0, 1, 2, 3, 4], star(6), [1, 0, 2, 3, 4, 5])

    def test_marks_of_one_tree_are_not_those_of_the_other(self):
        self.check_refused(BadMarks, row(4), [0, 2, 1], row(3), [0, 3, 1, 2])

    def test_more_than_twelve_places_make_no_tree(self):
        self.check_refused(BadTree, row(7), row_marks(7), row(6), row_marks(6))
        self.check_refused(BadTree, row(12), row_marks(12), Tree(1, []), [0])
        self.check_refused(BadMarks, row(12), list(range(11)), row(12), row_marks(12))
        self.check_refused(NotGood, row(12), row_marks(12), row(12), list(range(12)))


class OwnListsTest(unittest.TestCase):
    def test_what_is_handed_in_stays(self):
        for tree, marks in firsts():
            for other, more in ((row(2), [1, 0]), (star(6), list(range(6)))):
                with self.subTest(ties=tree.ties, marks=marks):
                    before = (handed(tree), list(marks), handed(other), list(more))
                    joined(tree, marks, other, more)
                    self.assertEqual((handed(tree), marks, handed(other), more), before)

    def test_told_lists_may_be_changed(self):
        tree, marks, other, more = row(2), [0, 1], row(2), [1, 0]
        told = joined(tree, marks, other, more)
        told[1][0] = 99
        told[1].append(7)
        self.assertEqual((marks, more), ([0, 1], [1, 0]))
        again = joined(tree, marks, other, more)
        self.assertEqual((handed(again[0]), again[1]), ((4, [(0, 1), (0, 2), (2, 3)]), [0, 3, 2, 1]))

    def test_no_two_lists_are_one(self):
        tree, marks = Tree(1, []), [0]
        told, again = joined(tree, marks, tree, marks), joined(tree, marks, tree, marks)
        lists = [tree.ties, marks, told[0].ties, told[1], again[0].ties, again[1]]
        self.assertEqual(len({id(one) for one in lists}), len(lists))
        self.assertIsNot(told[0], again[0])

    def test_later_change_of_what_was_handed_in_is_not_seen(self):
        tree, marks, other, more = row(2), [0, 1], row(2), [1, 0]
        told = joined(tree, marks, other, more)
        marks[0], marks[1], more[0], more[1] = 1, 0, 0, 1
        self.assertEqual((handed(told[0]), told[1]), ((4, [(0, 1), (0, 2), (2, 3)]), [0, 3, 2, 1]))


if __name__ == "__main__":
    unittest.main()
