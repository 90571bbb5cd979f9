"""Combs: trees whose places with two ties or more lie in one row."""

from markedties.errors import NoComb
from markedties.trees import neighbours


def inner_places(tree):
    return [place for place in range(tree.many) if len(neighbours(tree, place)) >= 2]


def inner_neighbours(tree, place):
    inner = inner_places(tree)
    return [near for near in neighbours(tree, place) if near in inner]


def is_comb(tree):
    return all([len(inner_neighbours(tree, place)) <= 2 for place in inner_places(tree)])


def row_end(tree):
    for place in inner_places(tree):
        if len(inner_neighbours(tree, place)) <= 1:
            return place
    # A tree of one or two places has no place with two ties; any place will do there.
    return 0


def inner_row(tree):
    row = [row_end(tree)]
    onward = inner_neighbours(tree, row[0])
    while len(onward) > 0:
        row.append(onward[0])
        onward = [near for near in inner_neighbours(tree, row[-1]) if near not in row]
    return row


def sides(tree):
    # A place of the row and what hangs on it lie on unlike sides, so a bound parts the two.
    row = inner_row(tree)
    high = [row[0]]
    low = []
    for k in range(len(row)):
        hanging = [near for near in neighbours(tree, row[k]) if near not in row]
        # The next place of the row comes last, so that the differences go on falling from there.
        met = hanging + row[k + 1:k + 2]
        if k % 2 == 0:
            low.extend(met)
        else:
            high.extend(met)
    return (high, low)


def comb_marks(tree):
    if not is_comb(tree):
        raise NoComb("a place with two ties or more has more than two such neighbours")
    parts = sides(tree)
    marks = [0] * tree.many
    for k in range(len(parts[0])):
        marks[parts[0][k]] = tree.many - 1 - k
    for k in range(len(parts[1])):
        marks[parts[1][k]] = k
    return marks
