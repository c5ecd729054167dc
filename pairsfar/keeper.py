"""Stage 8: a tree that changes, and what is told of it."""

from pairsfar.around import farthest
from pairsfar.checks import is_whole_from_zero
from pairsfar.errors import NoNumber, NoPlace, NoTree, TooMany
from pairsfar.numbered import nth_pair
from pairsfar.pairs import how_many_from
from pairsfar.trees import MOST_TUPLES, check_place_with_road, check_tree, is_road


def with_leaf(tree, up, length):
    """Tell the tree with a leaf more behind its places, of what is known to be a tree."""
    if not is_road((up, length), len(tree)):
        raise NoTree("a leaf hangs on a place of the tree, by a length that is a whole number from 0 on")
    if len(tree) >= MOST_TUPLES:
        raise TooMany("a tree has at most sixty places")
    return tree + [(up, length)]


def without_last(tree):
    """Tell the tree without its last place, of what is known to be a tree."""
    if not tree:
        raise NoPlace("place 0 is there always")
    return tree[:-1]


def with_length(tree, p, length):
    """Tell the tree with another length for the road of place p, of what is known to be a tree."""
    check_place_with_road(len(tree), p)
    if not is_whole_from_zero(length):
        raise NoNumber("a length is a whole number from 0 on")
    up = tree[p - 1][0]
    return tree[:p - 1] + [(up, length)] + tree[p:]


class Keeper:
    """A tree that leaves come to and go from, whose lengths change, and that goes back step by step."""

    def __init__(self, tree):
        check_tree(tree)
        # The trees up to now, the present one last. None of them is ever changed or handed out.
        self.steps = [list(tree)]

    def leaf(self, up, length):
        """Put a leaf behind the other places."""
        self.steps.append(with_leaf(self.steps[-1], up, length))

    def cut(self):
        """Take the last place away."""
        self.steps.append(without_last(self.steps[-1]))

    def put_length(self, p, length):
        """Give the road of place p another length, or the same one."""
        self.steps.append(with_length(self.steps[-1], p, length))

    def undo(self):
        """Take back what was done last and is not taken back yet."""
        if len(self.steps) == 1:
            raise NoNumber("nothing is left to undo")
        self.steps.pop()

    def tree(self):
        """Tell the tree."""
        return list(self.steps[-1])

    def how_many_from(self, a, b):
        """Tell how many pairs have a distance from a to b."""
        return how_many_from(self.steps[-1], a, b)

    def farthest(self):
        """Tell the greatest distance of any pair with the first pair that has it, or None of one place."""
        return farthest(self.steps[-1])

    def nth_pair(self, n):
        """Tell the pair with the number."""
        return nth_pair(self.steps[-1], n)
