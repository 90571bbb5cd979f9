import unittest
from math import factorial

from markedties.marks import is_good, turned
from markedties.search import first_marking, how_many, markings
from markedties.trees import Tree
from tests.shapes import handed, numberings, plain_markings, plainly_good, renumbered, row, shapes, spider, star, trees

ROW_COUNTS = [1, 2, 4, 4, 8, 24, 32]


class MarkingsTest(unittest.TestCase):
    def check_markings(self, tree, awaited):
        with self.subTest(many=tree.many, ties=tree.ties):
            told = markings(tree)
            self.assertIs(type(told), list)
            self.assertEqual({type(marks) for marks in told}, {list})
            self.assertEqual(told, awaited)

    def test_smallest(self):
        self.check_markings(Tree(1, []), [[0]])
        self.check_markings(row(2), [[0, 1], [1, 0]])
        self.check_markings(row(3), [[0, 2, 1], [1, 0, 2], [1, 2, 0], [2, 0, 1]])
        self.check_markings(row(4), [[0, 3, 1, 2], [1, 2, 0, 3], [2, 1, 3, 0], [3, 0, 2, 1]])

    def test_star_of_four(self):
        low = [[0, 1, 2, 3], [0, 1, 3, 2], [0, 2, 1, 3], [0, 2, 3, 1], [0, 3, 1, 2], [0, 3, 2, 1]]
        high = [[3, 0, 1, 2], [3, 0, 2, 1], [3, 1, 0, 2], [3, 1, 2, 0], [3, 2, 0, 1], [3, 2, 1, 0]]
        self.check_markings(star(4), low + high)

    def test_star_about_the_last_place(self):
        self.check_markings(Tree(3, [(0, 2), (1, 2)]), [[0, 1, 2], [1, 0, 2], [1, 2, 0], [2, 1, 0]])

    def test_every_shape_against_every_order_of_numbers(self):
        for many in range(1, 8):
            for tree in trees(many):
                self.check_markings(tree, plain_markings(tree))

    def test_somewhat_beyond_seven_places(self):
        for tree in (row(8), star(8), Tree(8, spider().ties + [(6, 7)])):
            self.check_markings(tree, plain_markings(tree))
        self.assertEqual(how_many(row(9)), 120)


class HowManyTest(unittest.TestCase):
    def test_rows(self):
        for many, awaited in enumerate(ROW_COUNTS, start=1):
            with self.subTest(many=many):
                self.assertEqual(how_many(row(many)), awaited)
                self.assertIs(type(how_many(row(many))), int)

    def test_stars(self):
        for many in range(3, 8):
            with self.subTest(many=many):
                self.assertEqual(how_many(star(many)), 2 * factorial(many - 1))

    def test_spider(self):
        self.assertEqual(how_many(spider()), 60)

    def test_as_many_as_are_told(self):
        for many in range(1, 8):
            for tree in trees(many):
                with self.subTest(many=many, ties=tree.ties):
                    self.assertEqual(how_many(tree), len(markings(tree)))

    def test_even_from_two_places_on(self):
        for many in range(2, 8):
            for tree in trees(many):
                with self.subTest(many=many, ties=tree.ties):
                    self.assertEqual(how_many(tree) % 2, 0)
        self.assertEqual(how_many(Tree(1, [])), 1)


class FirstMarkingTest(unittest.TestCase):
    def check_first(self, tree, awaited):
        with self.subTest(many=tree.many, ties=tree.ties):
            told = first_marking(tree)
            self.assertIs(type(told), list)
            self.assertEqual(told, awaited)

    def test_rows_and_stars(self):
        self.check_first(Tree(1, []), [0])
        self.check_first(row(2), [0, 1])
        self.check_first(row(3), [0, 2, 1])
        self.check_first(row(4), [0, 3, 1, 2])
        for many in range(1, 9):
            self.check_first(star(many), list(range(many)))
            self.check_first(Tree(many, [(place, many - 1) for place in range(many - 1)]), list(range(many)))

    def test_first_of_all_to_seven_places(self):
        for many in range(1, 8):
            for tree in trees(many):
                self.check_first(tree, markings(tree)[0])

    def test_eight_places(self):
        for tree in shapes(8):
            self.check_first(tree, plain_markings(tree)[0])

    def test_somewhat_beyond_eight_places(self):
        self.check_first(star(9), list(range(9)))
        for many in (9, 10):
            with self.subTest(many=many):
                self.assertTrue(plainly_good(row(many), first_marking(row(many))))
        self.check_first(row(9), markings(row(9))[0])


class TurnedAboutTest(unittest.TestCase):
    def test_turned_about_they_are_among_them(self):
        for many in range(1, 8):
            for tree in trees(many):
                with self.subTest(many=many, ties=tree.ties):
                    told = markings(tree)
                    about = [turned(tree, marks) for marks in told]
                    self.assertTrue(all(is_good(tree, marks) for marks in about))
                    self.assertEqual(sorted(about), told)
                    self.assertEqual([turned(tree, marks) for marks in about], told)


class NumberedOtherwiseTest(unittest.TestCase):
    def check_numbered(self, tree, names):
        new = renumbered(tree, names)
        taken = []
        for marks in markings(tree):
            moved = [None] * tree.many
            for place, mark in enumerate(marks):
                moved[names[place]] = mark
            taken.append(moved)
        self.assertEqual(how_many(new), how_many(tree))
        self.assertEqual(markings(new), sorted(taken))

    def test_same_marks_at_the_new_places(self):
        for many in range(1, 8):
            for tree in shapes(many):
                for names in numberings(many):
                    with self.subTest(many=many, ties=tree.ties, names=names):
                        self.check_numbered(tree, names)


class OwnListsTest(unittest.TestCase):
    def test_told_lists_may_be_changed(self):
        for tree in (Tree(1, []), row(2), row(5), star(4), spider()):
            with self.subTest(ties=tree.ties):
                told, first = markings(tree), first_marking(tree)
                before, ahead = [list(marks) for marks in told], list(first)
                for marks in told:
                    marks[0] = 99
                    marks.append(7)
                told.pop()
                first.clear()
                self.assertEqual(markings(tree), before)
                self.assertEqual(how_many(tree), len(before))
                self.assertEqual(first_marking(tree), ahead)

    def test_no_two_lists_are_one(self):
        for tree in (Tree(1, []), row(6), star(5), spider()):
            with self.subTest(ties=tree.ties):
                told, again = markings(tree), markings(tree)
                lists = [told, again] + told + again + [first_marking(tree)]
                self.assertEqual(len({id(one) for one in lists}), len(lists))

    def test_what_is_handed_in_stays(self):
        for many in range(1, 8):
            for tree in shapes(many):
                for ask in (markings, how_many, first_marking):
                    with self.subTest(many=many, ties=tree.ties, ask=ask.__name__):
                        before, held = handed(tree), tree.ties
                        ask(tree)
                        self.assertEqual(handed(tree), before)
                        self.assertIs(tree.ties, held)


if __name__ == "__main__":
    unittest.main()
