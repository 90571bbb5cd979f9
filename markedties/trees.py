"""Trees: places numbered from 0, and the ties between them."""

from markedties.errors import BadTree

MOST_PLACES = 12


def is_tie(many, tie):
    return len(tie) == 2 and 0 <= tie[0] < tie[1] < many


def is_rising(ties):
    return all([ties[k - 1] < ties[k] for k in range(1, len(ties))])


def is_whole(many, ties):
    # Each tie makes one group of two; in a whole tree one group is left.
    groups = list(range(many))
    for tie in ties:
        kept = groups[tie[0]]
        gone = groups[tie[1]]
        groups = [kept if group == gone else group for group in groups]
    return groups.count(groups[0]) == many


def check_tree(many, ties):
    if not 1 <= many <= MOST_PLACES:
        raise BadTree(f"a tree has 1 to {MOST_PLACES} places")
    if len(ties) != many - 1:
        raise BadTree("a tree has one tie less than places")
    if not all([is_tie(many, tie) for tie in ties]):
        raise BadTree("a tie holds two places of the tree, the lesser first")
    if not is_rising(ties):
        raise BadTree("the ties of a tree rise, and none is there twice")
    if not is_whole(many, ties):
        raise BadTree("the ties of a tree lead from each place to each other one")


class Tree:
    def __init__(self, many, ties):
        check_tree(many, ties)
        self.many = many
        # The list handed in may be changed later, so the tree has its own.
        self.ties = list(ties)


def neighbours(tree, place):
    lower = [tie[0] for tie in tree.ties if tie[1] == place]
    higher = [tie[1] for tie in tree.ties if tie[0] == place]
    # The ties rise, so each of the two lists rises already.
    return lower + higher
