"""Stage 2: how many pairs of places have a distance, and which."""

from pairsfar.checks import check_bounds, check_distance
from pairsfar.trees import check_tree, distance_table


def pairs_with_distances(tree):
    """Tell all pairs in their order, each as a tuple (pair, distance), of what is known to be a tree."""
    table = distance_table(tree)
    many = len(table)
    return [((i, j), table[i][j]) for i in range(many) for j in range(i + 1, many)]


def distances_counted(tree):
    """Tell a dict from each distance that some pair has to how many pairs have it."""
    check_tree(tree)
    counts = {}
    for pair, distance in pairs_with_distances(tree):
        counts[distance] = counts.get(distance, 0) + 1
    # Rising keys, so that the dict reads the same however the tree is written.
    return {distance: counts[distance] for distance in sorted(counts)}


def how_many_at(tree, distance):
    """Tell how many pairs have the distance."""
    return len(pairs_at(tree, distance))


def how_many_from(tree, a, b):
    """Tell how many pairs have a distance from a to b."""
    check_tree(tree)
    check_bounds(a, b)
    return len([pair for pair, distance in pairs_with_distances(tree) if a <= distance <= b])


def pairs_at(tree, distance):
    """Tell the pairs that have the distance, sorted."""
    check_tree(tree)
    check_distance(distance)
    return [pair for pair, far in pairs_with_distances(tree) if far == distance]
