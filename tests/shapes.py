"""Trees and good marks that the tests share, each written from its own plain rule."""

from markedties.trees import Tree

BRANCHED = [(0, 4), (1, 4), (2, 3), (2, 5), (3, 4)]


def row_ties(many):
    return [(place, place + 1) for place in range(many - 1)]


def star_ties(many):
    return [(0, place) for place in range(1, many)]


def row(many):
    return Tree(many, row_ties(many))


def star(many):
    return Tree(many, star_ties(many))


def row_marks(many):
    """0, n - 1, 1, n - 2 and so on: the differences fall from n - 1 to 1."""
    return [place // 2 if place % 2 == 0 else many - 1 - place // 2 for place in range(many)]


def spider():
    """Three arms of two places each about place 0; none of its good marks have a bound."""
    return Tree(7, [(0, 1), (0, 3), (0, 5), (1, 2), (3, 4), (5, 6)])


def wrong_marks(many):
    """Lists of numbers that are no marks of a tree of so many places, each with the reason."""
    right = list(range(many))
    wrong = [
        ("one more, the next number", right + [many]),
        ("one more, a number twice", right + [many - 1]),
        ("one less, the last", right[:-1]),
        ("one less, the first", right[1:]),
        ("above the greatest", right[:-1] + [many]),
        ("far above", right[:-1] + [many + 5]),
        ("below nought", [-1] + right[1:]),
        ("from 1 on", [number + 1 for number in right]),
        ("none", []),
    ]
    if many > 1:
        wrong.append(("the first twice", [right[0]] + right[:-1]))
        wrong.append(("the last twice", right[1:] + [right[-1]]))
        wrong.append(("all nought", [0] * many))
    return wrong
