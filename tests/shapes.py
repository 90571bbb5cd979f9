"""What the tests share: trees and good marks, each written from its own plain rule, and the look at a refusal."""

from functools import cache
from itertools import permutations

from markedties.errors import BadMarks, BadTree, NoBound, NoComb, NotGood, TieError
from markedties.trees import Tree

REFUSALS = [BadTree, BadMarks, NotGood, NoBound, NoComb]
BRANCHED = [(0, 4), (1, 4), (2, 3), (2, 5), (3, 4)]


def row_ties(many):
    return [(place, place + 1) for place in range(many - 1)]


def star_ties(many):
    return [(0, place) for place in range(1, many)]


def row(many):
    return Tree(many, row_ties(many))


def star(many):
    return Tree(many, star_ties(many))


def row_marks(many):
    """0, n - 1, 1, n - 2 and so on: the differences fall from n - 1 to 1."""
    return [place // 2 if place % 2 == 0 else many - 1 - place // 2 for place in range(many)]


def spider():
    """Three arms of two places each about place 0; none of its good marks have a bound."""
    return Tree(7, [(0, 1), (0, 3), (0, 5), (1, 2), (3, 4), (5, 6)])


def wrong_marks(many):
    """Lists of numbers that are no marks of a tree of so many places, each with the reason."""
    right = list(range(many))
    wrong = [
        ("one more, the next number", right + [many]),
        ("one more, a number twice", right + [many - 1]),
        ("one less, the last", right[:-1]),
        ("one less, the first", right[1:]),
        ("above the greatest", right[:-1] + [many]),
        ("far above", right[:-1] + [many + 5]),
        ("below nought", [-1] + right[1:]),
        ("from 1 on", [number + 1 for number in right]),
        ("none", []),
    ]
    if many > 1:
        wrong.append(("the first twice", [right[0]] + right[:-1]))
        wrong.append(("the last twice", right[1:] + [right[-1]]))
        wrong.append(("all nought", [0] * many))
    return wrong


def near_lists(tree):
    """For each place the places tied to it, read from the ties alone."""
    near = [[] for place in range(tree.many)]
    for low, high in tree.ties:
        near[low].append(high)
        near[high].append(low)
    return near


def hung(near, place, above):
    """The form of what hangs below a place, the same whatever the numbers of the places."""
    return tuple(sorted(hung(near, below, place) for below in near[place] if below != above))


def form(tree):
    near = near_lists(tree)
    return min(hung(near, place, None) for place in range(tree.many))


@cache
def shape_ties(many):
    if many == 1:
        return [[]]
    found = {}
    for ties in shape_ties(many - 1):
        for place in range(many - 1):
            tree = Tree(many, sorted(ties + [(place, many - 1)]))
            found.setdefault(form(tree), tree.ties)
    return list(found.values())


def shapes(many):
    """One tree of each shape of so many places."""
    return [Tree(many, ties) for ties in shape_ties(many)]


def renumbered(tree, names):
    """The tree with names[place] in the place of each place."""
    ties = [tuple(sorted((names[low], names[high]))) for low, high in tree.ties]
    return Tree(tree.many, sorted(ties))


def numberings(many):
    """A few ways to number so many places: as they are, backwards, and mixed."""
    mixed = sorted(range(many), key=lambda place: (place * 5 + 3) % 13)
    return [list(range(many)), list(range(many))[::-1], mixed]


def trees(many):
    """Trees of all shapes of so many places, each numbered in a few ways."""
    return [renumbered(tree, names) for tree in shapes(many) for names in numberings(many)]


def plainly_good(tree, marks):
    unlike = {abs(marks[low] - marks[high]) for low, high in tree.ties}
    return sorted(marks) == list(range(tree.many)) and unlike == set(range(1, tree.many))


def plain_markings(tree):
    """All good marks, by looking at every order of the numbers."""
    return [list(marks) for marks in permutations(range(tree.many)) if plainly_good(tree, marks)]


def plain_bounds(tree, marks):
    """Each number that has one place of each tie up to it and one above it."""
    return [number for number in range(tree.many)
            if all((marks[low] <= number) != (marks[high] <= number) for low, high in tree.ties)]


def handed(tree):
    """What a tree holds, to be held against what it holds later."""
    return (tree.many, list(tree.ties))


def check_refusal(case, refusal, ask, *handed_in):
    """It is a TieError and a ValueError, of its own class and of none of the other four."""
    with case.assertRaises(TieError) as caught:
        ask(*handed_in)
    case.assertIsInstance(caught.exception, ValueError)
    met = [one for one in REFUSALS if isinstance(caught.exception, one)]
    case.assertEqual(met, [refusal])
