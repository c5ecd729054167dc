"""Stage 5: the pairs by number, in the order of how far they are."""

from pairsfar.checks import is_whole_from_zero
from pairsfar.errors import NoNumber
from pairsfar.pairs import check_pair, pairs_from, pairs_grouped
from pairsfar.trees import check_tree


def pairs_in_order(tree):
    """Tell all pairs, the nearest first, those as far in their order, of what is known to be a tree."""
    return [pair for group in pairs_grouped(tree).values() for pair in group]


def pick(pairs, n):
    """Tell the pair that has the number in the list."""
    if not is_whole_from_zero(n) or n >= len(pairs):
        raise NoNumber("no pair has this number")
    return pairs[n]


def nth_pair(tree, n):
    """Tell the pair with the number."""
    check_tree(tree)
    return pick(pairs_in_order(tree), n)


def number_of_pair(tree, pair):
    """Tell the number of the pair."""
    check_tree(tree)
    check_pair(tree, pair)
    return pairs_in_order(tree).index(pair)


def nth_from(tree, a, b, n, far):
    """Tell the pair with the number of those from a to b alone, the farthest first where far is True."""
    check_tree(tree)
    return pick(pairs_from(tree, a, b, far), n)
