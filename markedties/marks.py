"""Marks: a number for each place of a tree, and the differences along its ties."""

from markedties.errors import BadMarks, NotGood


def check_marks(tree, marks):
    if sorted(marks) != list(range(tree.many)):
        raise BadMarks("marks hold each number from 0 to one less than the places once")


def differences(tree, marks):
    check_marks(tree, marks)
    return [abs(marks[tie[0]] - marks[tie[1]]) for tie in tree.ties]


def is_good(tree, marks):
    found = differences(tree, marks)
    return len(set(found)) == len(found)


def check_good(tree, marks):
    if not is_good(tree, marks):
        raise NotGood("two ties have the same difference")


def turned(tree, marks):
    check_marks(tree, marks)
    return [tree.many - 1 - mark for mark in marks]


def parts_each_tie(tree, marks, number):
    for tie in tree.ties:
        if (marks[tie[0]] > number) == (marks[tie[1]] > number):
            return False
    return True


def bound(tree, marks):
    check_good(tree, marks)
    for number in range(tree.many):
        if parts_each_tie(tree, marks, number):
            return number
    return None
