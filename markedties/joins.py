"""Joining: a tree whose good marks have a bound, and another one tied to it."""

from markedties.errors import NoBound
from markedties.marks import bound, check_good
from markedties.trees import Tree


def asked_bound(tree, marks):
    found = bound(tree, marks)
    if found is None:
        raise NoBound("the first tree's marks have no bound")
    return found


def moved_ties(ties, by):
    return [(tie[0] + by, tie[1] + by) for tie in ties]


def tie_between(tree, marks, other, more, parting):
    return (marks.index(parting), tree.many + more.index(other.many - 1))


def joined_marks(marks, more, parting):
    spread = [mark if mark <= parting else mark + len(more) for mark in marks]
    return spread + [mark + parting + 1 for mark in more]


def joined(tree, marks, other, more):
    parting = asked_bound(tree, marks)
    check_good(other, more)
    between = tie_between(tree, marks, other, more, parting)
    ties = sorted(tree.ties + moved_ties(other.ties, tree.many) + [between])
    return (Tree(tree.many + other.many, ties), joined_marks(marks, more, parting))
