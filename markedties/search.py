"""Searching: all good marks of a tree, and the first ones."""

from markedties.trees import neighbours


def lesser_neighbours(tree, place):
    return [near for near in neighbours(tree, place) if near < place]


def back_ties(tree):
    return [lesser_neighbours(tree, place) for place in range(tree.many)]


def steps(back, begun, met):
    # Marks are tried from the least on, so what is found comes in order as lists.
    told = []
    for mark in range(len(back)):
        if mark not in begun:
            grown = met + [abs(begun[near] - mark) for near in back[len(begun)]]
            if len(set(grown)) == len(grown):
                told.append((begun + [mark], grown))
    return told


def all_from(back, begun, met):
    if len(begun) == len(back):
        return [begun]
    found = []
    for step in steps(back, begun, met):
        found.extend(all_from(back, step[0], step[1]))
    return found


def first_from(back, begun, met):
    if len(begun) == len(back):
        return begun
    for step in steps(back, begun, met):
        found = first_from(back, step[0], step[1])
        if found is not None:
            return found
    return None


def markings(tree):
    return all_from(back_ties(tree), [], [])


def how_many(tree):
    return len(markings(tree))


def first_marking(tree):
    return first_from(back_ties(tree), [], [])
