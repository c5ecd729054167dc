"""Stage 7: the tree told back from a table of how far all places are from one another."""

from pairsfar.checks import is_whole_from_zero
from pairsfar.errors import NoTable
from pairsfar.trees import MOST_TUPLES, check_place_with_road


def is_row(thing, many):
    """Tell whether thing is a list of so many distances."""
    if not isinstance(thing, list) or len(thing) != many:
        return False
    return all([is_whole_from_zero(distance) for distance in thing])


def is_alike_both_ways(rows):
    """Tell whether each place is at 0 from itself and as far from each other one as that one from it."""
    for i, row in enumerate(rows):
        if row[i] != 0 or any([row[j] != rows[j][i] for j in range(i)]):
            return False
    return True


def is_table(thing):
    """Tell whether thing is a table."""
    # A place more than tuples: place 0 has a row, but no tuple in a tree.
    if not isinstance(thing, list) or not 1 <= len(thing) <= MOST_TUPLES + 1:
        return False
    return all([is_row(row, len(thing)) for row in thing]) and is_alike_both_ways(thing)


def check_table(thing):
    """Refuse what is no table."""
    if not is_table(thing):
        raise NoTable("a table is a list of one to sixty lists of distances, as far the one way as the other")


def hangs_on(table, p, q):
    """Tell whether place p may hang on place q ahead of it, by what is known to be a table."""
    return all([table[p][place] == table[p][q] + table[q][place] for place in range(p)])


def ups_of(table, p):
    """Tell the places that p may hang on, rising, by what is known to be a table."""
    return [q for q in range(p) if hangs_on(table, p, q)]


def tree_of(table):
    """Tell the first tree that has just the distances of the table, or None where none has them."""
    check_table(table)
    tree = []
    # On what a place hangs leaves the others their choice, so the least up of each makes the first tree.
    for p in range(1, len(table)):
        ups = ups_of(table, p)
        if not ups:
            return None
        tree.append((ups[0], table[p][ups[0]]))
    return tree


def may_hang_on(table, p):
    """Tell the places that place p may hang on, rising."""
    check_table(table)
    check_place_with_road(len(table) - 1, p)
    return ups_of(table, p)


def first_hanging_on_none(table):
    """Tell the first place that may hang on none, or None."""
    check_table(table)
    for p in range(1, len(table)):
        if not ups_of(table, p):
            return p
    return None
