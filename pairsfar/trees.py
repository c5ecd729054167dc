"""Stage 1: what a tree is, how far two of its places are, and the way between them."""

from pairsfar.checks import is_whole_from_zero
from pairsfar.errors import NoPlace, NoTree

MOST_TUPLES = 59


def is_road(thing, at):
    """Tell whether thing may stand in a tree as the tuple at that index."""
    if not isinstance(thing, tuple) or len(thing) != 2:
        return False
    up, length = thing
    return is_whole_from_zero(up) and up <= at and is_whole_from_zero(length)


def is_tree(thing):
    """Tell whether thing is a tree."""
    if not isinstance(thing, list) or len(thing) > MOST_TUPLES:
        return False
    return all([is_road(road, at) for at, road in enumerate(thing)])


def check_tree(thing):
    """Refuse what is no tree."""
    if not is_tree(thing):
        raise NoTree("a tree is a list of none to fifty-nine tuples (up, length)")


def is_place(tree, thing):
    """Tell whether thing is a place of what is known to be a tree."""
    # As many tuples as there are is the last place, for place 0 has no tuple.
    return is_whole_from_zero(thing) and thing <= len(tree)


def check_place(tree, thing):
    """Refuse what is no place of the tree."""
    if not is_place(tree, thing):
        raise NoPlace("a place is a whole number from 0 on, below how many places there are")


def check_place_with_road(last, thing):
    """Refuse what is no place from 1 on, up to the last one."""
    if not is_whole_from_zero(thing) or not 1 <= thing <= last:
        raise NoPlace("a place that has a road is a whole number from 1 on, below how many places there are")


def known_way(tree, i, j):
    """Tell all places on the way from i to j, both among them, of what are known to be a tree and its places."""
    from_i = [i]
    from_j = [j]
    # Ups are below their places, so the greater end can't be on the other end's way to place 0: it goes up.
    while from_i[-1] != from_j[-1]:
        if from_i[-1] > from_j[-1]:
            from_i.append(tree[from_i[-1] - 1][0])
        else:
            from_j.append(tree[from_j[-1] - 1][0])
    return from_i + from_j[:-1][::-1]


def roads_on(way):
    """Tell the roads that the way goes over, each by the place that has its tuple."""
    # Of the two ends of a road the greater one has its tuple.
    return [max(one, other) for one, other in zip(way, way[1:])]


def length_of(tree, roads):
    """Tell how long the roads are together."""
    return sum([tree[road - 1][1] for road in roads])


def way_between(tree, i, j):
    """Tell all places on the way from i to j, both among them."""
    check_tree(tree)
    check_place(tree, i)
    check_place(tree, j)
    return known_way(tree, i, j)


def how_far(tree, i, j):
    """Tell the sum of the lengths on the way from i to j."""
    return length_of(tree, roads_on(way_between(tree, i, j)))


def distance_table(tree):
    """Tell a list, by places, of lists of how far each place is, of what is known to be a tree."""
    table = [[0]]
    for up, length in tree:
        new_row = [far + length for far in table[up]]
        for place, far in enumerate(new_row):
            table[place].append(far)
        table.append(new_row + [0])
    return table
