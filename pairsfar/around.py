"""Stage 3: how far the places are from one, the farthest pair, and the middles."""

from pairsfar.checks import check_distance
from pairsfar.pairs import pairs_grouped
from pairsfar.trees import check_place, check_tree, distance_table


def places_with(told, number):
    """Tell the places for which the list, by places, has the number, rising."""
    return [place for place, one in enumerate(told) if one == number]


def least_with_places(told):
    """Tell the least number of the list, by places, with the places that have it."""
    least = min(told)
    return (least, places_with(told, least))


def distances_from(tree, i):
    """Tell a list, by places, of how far each is from place i."""
    check_tree(tree)
    check_place(tree, i)
    return distance_table(tree)[i]


def places_at(tree, i, distance):
    """Tell the places that are as far from place i as told, rising."""
    told = distances_from(tree, i)
    check_distance(distance)
    return places_with(told, distance)


def farthest(tree):
    """Tell the greatest distance of any pair with the first pair that has it, or None of one place."""
    check_tree(tree)
    groups = pairs_grouped(tree)
    if not groups:
        return None
    distance = max(groups)
    return (distance, groups[distance][0])


def middles(tree):
    """Tell the least greatest distance to any place, with the places that have it."""
    check_tree(tree)
    return least_with_places([max(row) for row in distance_table(tree)])


def sum_middles(tree):
    """Tell the least sum of distances to all places, with the places that have it."""
    check_tree(tree)
    return least_with_places([sum(row) for row in distance_table(tree)])
