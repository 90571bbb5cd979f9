import unittest
from itertools import combinations

from markedties.combs import comb_marks, is_comb
from markedties.errors import BadMarks, NotGood
from markedties.joins import joined
from markedties.marks import turned
from markedties.rings import copies
from markedties.search import first_marking, markings
from markedties.trees import Tree
from tests.shapes import check_refusal, handed, row, row_marks, shapes, spider, star, wrong_marks

SPIDER_MARKS = [0, 1, 4, 5, 3, 6, 2]


def great_spider(many):
    """A tree of 8 places or more that is no comb, with good marks: a row joined to the spider."""
    first = row(many - 7)
    return joined(first, row_marks(many - 7), spider(), SPIDER_MARKS)


def marked():
    """Trees of 1 to 12 places, each with good marks."""
    cases = [(row(many), row_marks(many)) for many in range(1, 13)]
    cases += [(star(many), list(range(many))) for many in range(1, 13)]
    cases += [great_spider(many) for many in range(8, 13)]
    for many in range(1, 9):
        cases += [(tree, first_marking(tree)) for tree in shapes(many)]
    for many in range(9, 13):
        cases += [(tree, comb_marks(tree)) for tree in shapes(many) if is_comb(tree)]
    return cases


class CopiesTest(unittest.TestCase):
    def test_single_place(self):
        self.assertEqual(copies(Tree(1, []), [0]), [[]])

    def test_two_places(self):
        self.assertEqual(copies(row(2), [0, 1]), [[(0, 1)], [(1, 2)], [(0, 2)]])
        self.assertEqual(copies(row(2), [1, 0]), [[(0, 1)], [(1, 2)], [(0, 2)]])

    def test_three_places(self):
        awaited = [[(0, 2), (1, 2)], [(1, 3), (2, 3)], [(2, 4), (3, 4)], [(0, 3), (0, 4)], [(0, 1), (1, 4)]]
        self.assertEqual(copies(row(3), [0, 2, 1]), awaited)
        awaited = [[(0, 1), (0, 2)], [(1, 2), (1, 3)], [(2, 3), (2, 4)], [(0, 3), (3, 4)], [(0, 4), (1, 4)]]
        self.assertEqual(copies(row(3), [1, 0, 2]), awaited)

    def test_four_places(self):
        told = copies(row(4), [0, 3, 1, 2])
        self.assertEqual(told[0], [(0, 3), (1, 2), (1, 3)])
        self.assertEqual(told[4], [(0, 4), (0, 5), (5, 6)])
        self.assertEqual(told[6], [(0, 1), (0, 2), (2, 6)])

    def check_form(self, tree, told):
        size = 2 * tree.many - 1
        self.assertIs(type(told), list)
        self.assertEqual(len(told), size)
        for one in told:
            self.assertIs(type(one), list)
            self.assertEqual(one, sorted(one))
            for tie in one:
                self.assertIs(type(tie), tuple)
                self.assertEqual(len(tie), 2)
                self.assertTrue(0 <= tie[0] < tie[1] < size)

    def check_copies(self, tree, marks):
        size = 2 * tree.many - 1
        told = copies(tree, marks)
        self.check_form(tree, told)
        for s, one in enumerate(told):
            lies = [(mark + s) % size for mark in marks]
            awaited = {frozenset((lies[low], lies[high])) for low, high in tree.ties}
            self.assertEqual({frozenset(tie) for tie in one}, awaited)
            self.assertEqual(len(one), tree.many - 1)
        together = sorted(tie for one in told for tie in one)
        self.assertEqual(together, list(combinations(range(size), 2)))

    def test_each_pair_just_once(self):
        for tree, marks in marked():
            with self.subTest(many=tree.many, ties=tree.ties, marks=marks):
                self.check_copies(tree, marks)
                self.check_copies(tree, turned(tree, marks))

    def test_all_good_marks(self):
        for many in range(1, 7):
            for tree in shapes(many):
                for marks in markings(tree):
                    with self.subTest(many=many, ties=tree.ties, marks=marks):
                        self.check_copies(tree, marks)


class RefusedTest(unittest.TestCase):
    def check_refused(self, refusal, tree, marks):
        with self.subTest(many=tree.many, ties=tree.ties, marks=marks):
            before, kept = handed(tree), list(marks)
            check_refusal(self, refusal, copies, tree, marks)
            self.assertEqual(handed(tree), before)
            self.assertEqual(marks, kept)

    def test_bad_marks(self):
        for many in range(1, 13):
            for reason, marks in wrong_marks(many):
                self.check_refused(BadMarks, row(many), marks)
                self.check_refused(BadMarks, star(many), marks)

    def test_unlike_differences_do_not_make_marks(self):
        for marks in ([0, 1, 3], [1, 3, 2], [0, 2, -1], [0, 5, 1]):
            self.check_refused(BadMarks, row(3), marks)

    def test_not_good(self):
        for many in range(3, 13):
            self.check_refused(NotGood, row(many), list(range(many)))
            self.check_refused(NotGood, star(many), [1, 0] + list(range(2, many)))
        self.check_refused(NotGood, spider(), [0, 1, 4, 5, 3, 2, 6])


class OwnListsTest(unittest.TestCase):
    def test_what_is_handed_in_stays(self):
        for tree, marks in marked():
            with self.subTest(many=tree.many, ties=tree.ties, marks=marks):
                before, kept = handed(tree), list(marks)
                copies(tree, marks)
                self.assertEqual(handed(tree), before)
                self.assertEqual(marks, kept)

    def test_told_lists_may_be_changed(self):
        for tree, marks in ((Tree(1, []), [0]), (row(4), [0, 3, 1, 2]), (spider(), SPIDER_MARKS)):
            with self.subTest(many=tree.many):
                told = copies(tree, marks)
                before, own = [list(one) for one in told], list(tree.ties)
                for one in told:
                    one.append((9, 9))
                told.pop()
                self.assertEqual(copies(tree, marks), before)
                self.assertEqual(tree.ties, own)

    def test_no_two_lists_are_one(self):
        for tree, marks in marked():
            told, again = copies(tree, marks), copies(tree, marks)
            lists = [told, again, marks, tree.ties] + told + again
            self.assertEqual(len({id(one) for one in lists}), len(lists))

    def test_later_change_of_marks_is_not_seen(self):
        tree, marks = row(3), [0, 2, 1]
        told = copies(tree, marks)
        marks[0], marks[2] = 1, 0
        self.assertEqual(told[0], [(0, 2), (1, 2)])
        self.assertEqual(copies(tree, [1, 0, 2])[0], [(0, 1), (0, 2)])


if __name__ == "__main__":
    unittest.main()
