import unittest
from itertools import permutations

from markedties.errors import BadMarks, NotGood, TieError
from markedties.marks import bound, differences, is_good, turned
from markedties.trees import Tree
from tests.shapes import BRANCHED, row, row_marks, spider, star, wrong_marks

ASKED = [differences, is_good, turned, bound]


class DifferencesTest(unittest.TestCase):
    def check_differences(self, tree, marks, awaited):
        with self.subTest(many=tree.many, marks=marks):
            told = differences(tree, marks)
            self.assertIs(type(told), list)
            self.assertEqual(told, awaited)

    def test_single_place(self):
        self.check_differences(Tree(1, []), [0], [])

    def test_two_places(self):
        self.check_differences(row(2), [0, 1], [1])
        self.check_differences(row(2), [1, 0], [1])

    def test_order_of_the_ties(self):
        self.check_differences(Tree(6, BRANCHED), [5, 4, 1, 3, 0, 2], [5, 4, 2, 1, 3])
        self.check_differences(Tree(6, BRANCHED), [0, 1, 2, 3, 4, 5], [4, 3, 1, 3, 1])
        self.check_differences(spider(), [0, 1, 4, 5, 3, 6, 2], [1, 5, 6, 3, 2, 4])

    def test_rows(self):
        for many in range(1, 13):
            self.check_differences(row(many), row_marks(many), list(range(many - 1, 0, -1)))
            self.check_differences(row(many), list(range(many)), [1] * (many - 1))

    def test_stars(self):
        for many in range(1, 13):
            self.check_differences(star(many), list(range(many)), list(range(1, many)))

    def test_change_of_a_told_list_is_not_seen(self):
        tree, marks = row(4), [0, 3, 1, 2]
        told = differences(tree, marks)
        told[0] = 9
        told.append(7)
        self.assertEqual(differences(tree, marks), [3, 2, 1])


class IsGoodTest(unittest.TestCase):
    def test_good(self):
        cases = [(row(many), row_marks(many)) for many in range(1, 13)]
        cases += [(star(many), list(range(many))) for many in range(1, 13)]
        cases += [(star(many), list(range(many))[::-1]) for many in range(1, 13)]
        cases += [(row(5), [1, 2, 4, 0, 3]), (spider(), [0, 1, 4, 5, 3, 6, 2])]
        cases += [(Tree(6, BRANCHED), [0, 1, 4, 2, 5, 3])]
        for tree, marks in cases:
            with self.subTest(many=tree.many, marks=marks):
                self.assertIs(is_good(tree, marks), True)

    def test_not_good(self):
        cases = [(row(many), list(range(many))) for many in range(3, 13)]
        cases += [(star(many), [1, 0] + list(range(2, many))) for many in range(3, 13)]
        cases += [(row(4), [0, 2, 1, 3]), (row(4), [0, 1, 3, 2]), (spider(), [0, 1, 4, 5, 3, 2, 6])]
        for tree, marks in cases:
            with self.subTest(many=tree.many, marks=marks):
                self.assertIs(is_good(tree, marks), False)

    def test_last_two_differences_alike(self):
        self.assertIs(is_good(row(5), [0, 4, 2, 3, 1]), False)
        self.assertEqual(differences(row(5), [0, 4, 2, 3, 1]), [4, 2, 1, 2])

    def test_every_marking_of_a_row(self):
        tree = row(4)
        good = [list(marks) for marks in permutations(range(4)) if is_good(tree, list(marks))]
        self.assertEqual(good, [[0, 3, 1, 2], [1, 2, 0, 3], [2, 1, 3, 0], [3, 0, 2, 1]])


class TurnedTest(unittest.TestCase):
    def check_turned(self, tree, marks, awaited):
        with self.subTest(many=tree.many, marks=marks):
            told = turned(tree, marks)
            self.assertIs(type(told), list)
            self.assertEqual(told, awaited)
            self.assertEqual(turned(tree, told), marks)

    def test_marks(self):
        self.check_turned(Tree(1, []), [0], [0])
        self.check_turned(row(2), [0, 1], [1, 0])
        self.check_turned(row(4), [0, 3, 1, 2], [3, 0, 2, 1])
        self.check_turned(spider(), [0, 1, 4, 5, 3, 6, 2], [6, 5, 2, 1, 3, 0, 4])

    def test_marks_that_are_not_good(self):
        self.check_turned(row(4), [1, 0, 2, 3], [2, 3, 1, 0])

    def test_of_all_sizes(self):
        for many in range(1, 13):
            self.check_turned(star(many), list(range(many)), list(range(many))[::-1])

    def test_good_marks_stay_good(self):
        for many in range(1, 13):
            with self.subTest(many=many):
                self.assertIs(is_good(row(many), turned(row(many), row_marks(many))), True)

    def test_told_list_is_a_new_one(self):
        tree, marks = Tree(1, []), [0]
        told = turned(tree, marks)
        self.assertIsNot(told, marks)
        told[0] = 5
        self.assertEqual(marks, [0])
        self.assertEqual(turned(tree, marks), [0])

    def test_change_of_a_told_list_is_not_seen(self):
        tree, marks = row(4), [0, 3, 1, 2]
        told = turned(tree, marks)
        told[0] = 9
        told.append(7)
        self.assertEqual(turned(tree, marks), [3, 0, 2, 1])


class BoundTest(unittest.TestCase):
    def check_bound(self, tree, marks, awaited):
        with self.subTest(many=tree.many, marks=marks):
            told = bound(tree, marks)
            self.assertEqual(told, awaited)
            self.assertIs(type(told), type(awaited))

    def test_single_place(self):
        self.check_bound(Tree(1, []), [0], 0)

    def test_two_places(self):
        self.check_bound(row(2), [0, 1], 0)
        self.check_bound(row(2), [1, 0], 0)

    def test_lower_end(self):
        for many in range(2, 13):
            self.check_bound(star(many), list(range(many)), 0)

    def test_upper_end(self):
        for many in range(2, 13):
            self.check_bound(star(many), list(range(many))[::-1], many - 2)

    def test_within(self):
        for many in range(3, 13):
            self.check_bound(row(many), row_marks(many), (many - 1) // 2)
        self.check_bound(Tree(6, BRANCHED), [0, 1, 4, 2, 5, 3], 3)
        self.check_bound(Tree(6, BRANCHED), [5, 4, 1, 3, 0, 2], 1)

    def test_none(self):
        self.check_bound(row(5), [1, 2, 4, 0, 3], None)
        self.check_bound(row(5), [1, 4, 0, 2, 3], None)
        self.check_bound(row(5), [3, 2, 0, 4, 1], None)
        self.check_bound(row(5), [3, 0, 4, 2, 1], None)
        self.check_bound(row(6), [1, 3, 4, 0, 5, 2], None)
        self.check_bound(Tree(6, BRANCHED), [0, 2, 3, 1, 5, 4], None)
        self.check_bound(spider(), [0, 1, 4, 5, 3, 6, 2], None)

    def test_no_good_marks_of_the_spider_have_one(self):
        tree = spider()
        good = [list(marks) for marks in permutations(range(7)) if is_good(tree, list(marks))]
        self.assertEqual({bound(tree, marks) for marks in good}, {None})
        self.assertEqual(len(good), 60)

    def test_turned_about(self):
        for many in range(2, 13):
            marks = turned(row(many), row_marks(many))
            self.check_bound(row(many), marks, many - 2 - (many - 1) // 2)

    def test_not_good(self):
        cases = [(row(3), [0, 1, 2]), (row(4), [0, 2, 1, 3]), (row(12), list(range(12)))]
        cases += [(star(3), [1, 0, 2]), (spider(), [0, 1, 4, 5, 3, 2, 6])]
        for tree, marks in cases:
            with self.subTest(many=tree.many, marks=marks):
                with self.assertRaises(NotGood) as caught:
                    bound(tree, marks)
                self.assertIsInstance(caught.exception, TieError)

    def test_bad_marks_come_before_not_good(self):
        for marks in ([1, 1, 1], [0, 1, 3], [0, 1, 2, 3], [1, 2, 3]):
            with self.subTest(marks=marks):
                with self.assertRaises(BadMarks):
                    bound(row(3), marks)


class RefusedMarksTest(unittest.TestCase):
    def check_refused(self, ask, tree, marks):
        before = list(marks)
        with self.assertRaises(BadMarks) as caught:
            ask(tree, marks)
        self.assertIsInstance(caught.exception, TieError)
        self.assertIsInstance(caught.exception, ValueError)
        self.assertEqual(marks, before)

    def test_lists_that_are_no_marks(self):
        for many in range(1, 13):
            for reason, marks in wrong_marks(many):
                for ask in ASKED:
                    for tree in (row(many), star(many)):
                        with self.subTest(many=many, reason=reason, ask=ask.__name__):
                            self.check_refused(ask, tree, marks)

    def test_unlike_differences_do_not_make_marks(self):
        for ask in ASKED:
            for marks in ([0, 1, 3], [1, 3, 2], [0, 2, -1], [0, 5, 1]):
                with self.subTest(marks=marks, ask=ask.__name__):
                    self.check_refused(ask, row(3), marks)


class HandedInTest(unittest.TestCase):
    def test_what_is_handed_in_stays(self):
        for many in range(1, 13):
            for ask in ASKED:
                with self.subTest(many=many, ask=ask.__name__):
                    tree, marks = row(many), row_marks(many)
                    ask(tree, marks)
                    self.assertEqual(marks, row_marks(many))
                    self.assertEqual((tree.many, tree.ties), (many, row(many).ties))

    def test_later_change_of_marks_is_not_seen(self):
        tree, marks = row(4), [0, 3, 1, 2]
        found, other = differences(tree, marks), turned(tree, marks)
        marks[0], marks[1] = 3, 0
        self.assertEqual(found, [3, 2, 1])
        self.assertEqual(other, [3, 0, 2, 1])

    def test_changed_marks_are_asked_anew(self):
        tree, marks = row(4), [0, 3, 1, 2]
        self.assertEqual((is_good(tree, marks), bound(tree, marks)), (True, 1))
        marks[2], marks[3] = 2, 1
        self.assertEqual(differences(tree, marks), [3, 1, 1])
        self.assertIs(is_good(tree, marks), False)
        self.assertEqual(turned(tree, marks), [3, 0, 1, 2])
        with self.assertRaises(NotGood):
            bound(tree, marks)


if __name__ == "__main__":
    unittest.main()
