"""Stage 2: what a pair is, how many pairs of places have a distance, and which."""

from pairsfar.checks import check_bounds, check_distance
from pairsfar.errors import NoPair
from pairsfar.trees import check_tree, distance_table, is_place


def is_pair(tree, thing):
    """Tell whether thing is a pair of what is known to be a tree."""
    if not isinstance(thing, tuple) or len(thing) != 2:
        return False
    i, j = thing
    return is_place(tree, i) and is_place(tree, j) and i < j


def check_pair(tree, thing):
    """Refuse what is no pair of the tree."""
    if not is_pair(tree, thing):
        raise NoPair("a pair is a tuple (i, j) of two places of the tree, i below j")


def pairs_grouped(tree):
    """Tell a dict from each distance to the list of its pairs, both rising, of what is known to be a tree."""
    table = distance_table(tree)
    groups = {}
    for i, row in enumerate(table):
        for j in range(i + 1, len(table)):
            groups.setdefault(row[j], []).append((i, j))
    # Rising keys, so that a dict told from this one reads the same however the tree is written.
    return {distance: groups[distance] for distance in sorted(groups)}


def pairs_from(tree, a, b, far=False):
    """Tell the pairs from a to b, the nearest or the farthest first, of what is known to be a tree."""
    check_bounds(a, b)
    groups = pairs_grouped(tree)
    distances = [distance for distance in groups if a <= distance <= b]
    if far:
        # Only the groups are turned about: pairs as far as one another stay in their order.
        distances = distances[::-1]
    return [pair for distance in distances for pair in groups[distance]]


def distances_counted(tree):
    """Tell a dict from each distance that some pair has to how many pairs have it."""
    check_tree(tree)
    groups = pairs_grouped(tree)
    return {distance: len(groups[distance]) for distance in groups}


def how_many_at(tree, distance):
    """Tell how many pairs have the distance."""
    return len(pairs_at(tree, distance))


def how_many_from(tree, a, b):
    """Tell how many pairs have a distance from a to b."""
    check_tree(tree)
    return len(pairs_from(tree, a, b))


def pairs_at(tree, distance):
    """Tell the pairs that have the distance, sorted."""
    check_tree(tree)
    check_distance(distance)
    return pairs_grouped(tree).get(distance, [])
