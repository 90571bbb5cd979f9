"""Rings: copies of a tree that have a tie between each two places of a ring, and just one."""

from markedties.marks import check_good


def ring_size(tree):
    return 2 * tree.many - 1


def laid_tie(tree, marks, tie, shift):
    one = (marks[tie[0]] + shift) % ring_size(tree)
    two = (marks[tie[1]] + shift) % ring_size(tree)
    return (min(one, two), max(one, two))


def one_copy(tree, marks, shift):
    return sorted([laid_tie(tree, marks, tie, shift) for tie in tree.ties])


def copies(tree, marks):
    check_good(tree, marks)
    return [one_copy(tree, marks, shift) for shift in range(ring_size(tree))]
