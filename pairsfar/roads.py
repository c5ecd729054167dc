"""Stage 6: how many pairs use a road or pass a place, and the way that two pairs have in common."""

from pairsfar.pairs import check_pair, pairs_from
from pairsfar.trees import check_tree, known_way, length_of, roads_on


def ways_from(tree, a, b):
    """Tell the ways of the pairs from a to b, of what is known to be a tree."""
    return [known_way(tree, i, j) for i, j in pairs_from(tree, a, b)]


def pairs_over_roads(tree, a, b):
    """Tell a list, by tuples, of how many pairs from a to b have their way over the road."""
    check_tree(tree)
    counts = [0] * len(tree)
    for way in ways_from(tree, a, b):
        for road in roads_on(way):
            counts[road - 1] += 1
    return counts


def pairs_past_places(tree, a, b):
    """Tell a list, by places, of how many pairs from a to b have the place on their way, not as an end."""
    check_tree(tree)
    counts = [0] * (len(tree) + 1)
    for way in ways_from(tree, a, b):
        for place in way[1:-1]:
            counts[place] += 1
    return counts


def way_in_common(tree, one, other):
    """Tell how long the way is that both pairs go over, with its roads, rising."""
    check_tree(tree)
    check_pair(tree, one)
    check_pair(tree, other)
    of_one = roads_on(known_way(tree, one[0], one[1]))
    of_other = roads_on(known_way(tree, other[0], other[1]))
    roads = sorted([road for road in of_one if road in of_other])
    return (length_of(tree, roads), roads)
