"""[2], [3], [15], [16]: the tree told back from a table, what a place may hang on, the first that may hang on none."""

import itertools
import unittest

from pairsfar.errors import NoPlace, NoTable
from pairsfar.toldback import first_hanging_on_none, may_hang_on, tree_of
from tests.helper import (BELOW_ZERO, HUGE, MIXED, NO_WHOLE_NUMBERS, TREES, FarCase, chain, every_tree, exact, star,
                          table_of)

# Three places at 1 from one another: no tree has them.
ROUND = [[0, 1, 1], [1, 0, 1], [1, 1, 0]]
# The chain 0 - 2 - 1: a tree only if place 2 came ahead of place 1.
MIDDLE_LAST = [[0, 2, 1], [2, 0, 1], [1, 1, 0]]
# Places 0 and 2 are at 0 from one another, and so are 1 and 3.
TWICE = [[0, 4, 0, 4], [4, 0, 4, 0], [0, 4, 0, 4], [4, 0, 4, 0]]
# Places 0 to 2 are a chain, place 3 is nearer to both ends than roads let.
LATE = [[0, 1, 3, 1, 2], [1, 0, 2, 1, 2], [3, 2, 0, 1, 2], [1, 1, 1, 0, 1], [2, 2, 2, 1, 0]]

NOT_HUGE = [tree for tree in TREES if all(length < 10 ** 16 for up, length in tree)]


def zeros(many):
    return [[0] * many for place in range(many)]


def every_table(many, distances):
    """Every table of so many places with these distances."""
    pairs = list(itertools.combinations(range(many), 2))
    for chosen in itertools.product(distances, repeat=len(pairs)):
        table = zeros(many)
        for (i, j), distance in zip(pairs, chosen):
            table[i][j] = table[j][i] = distance
        yield table


def as_key(table):
    return tuple(tuple(row) for row in table)


def corner(table, many):
    """The table of the first places alone."""
    return [row[:many] for row in table[:many]]


def trees_by_table(most_tuples, distances):
    """A dict from each table to the sorted list of all trees that have it, of trees with these lengths."""
    found = {}
    for tuples in range(most_tuples + 1):
        for tree in sorted(every_tree(tuples, distances)):
            found.setdefault(as_key(table_of(tree)), []).append(tree)
    return found


def with_one(table, i, j, distance):
    """The table with another distance from i to j, this way alone."""
    rows = [list(row) for row in table]
    rows[i][j] = distance
    return rows


def with_both(table, i, j, distance):
    return with_one(with_one(table, i, j, distance), j, i, distance)


def no_tables():
    """Things that are no table."""
    sixty = table_of(chain([1] * 59))
    whole = [
        True, False, None, 0, 1, -1, "", "0", "[[0]]", b"", b"0", (), ([0],), ((0,),), {}, {0: [0]}, {0: {0: 0}}, set(),
        frozenset(), object(), list, len, range(1), HUGE,
    ]
    rows = [
        [], [0], [None], [True], ["0"], [b"0"], [()], [(0,)], [{}], [{0: 0}], [{0}], [range(1)], [[[0]]], [[(0,)]],
        [(0, 1), (1, 0)], [[0, 1], (1, 0)], [(0, 1), [1, 0]], [[0, 1], "10"], [[0, 1], None], [[0, 1], {0: 1, 1: 0}],
    ]
    sizes = [
        [[]], [[0, 0]], [[0], [0]], [[0, 1]], [[0, 1], [1]], [[0], [1, 0]], [[0, 1, 1], [1, 0, 1]],
        [[0, 1], [1, 0], [1, 1]], [[0, 1], [1, 0, 1]], [[0, 1, 1], [1, 0]], [[0, 1], [1, 0], []],
        zeros(61), zeros(62), zeros(120), table_of(chain([1] * 59)) + [[0] * 60], [row + [0] for row in sixty],
        sixty[:-1], sixty[:-1] + [sixty[-1][:-1]], sixty[:-1] + [sixty[-1] + [0]], [sixty[0][:-1]] + sixty[1:],
    ]
    numbers = [
        [[1]], [[-1]], [[HUGE]], [[False]], [[True]], [[None]], [["0"]], [[[]]], with_one(sixty, 59, 59, 1),
        with_one(sixty, 0, 0, 1), with_one(sixty, 59, 0, 60), with_one(sixty, 0, 59, 60), with_one(sixty, 30, 31, 2),
        with_one(ROUND, 1, 1, False), with_one(ROUND, 2, 2, 5), with_one(ROUND, 0, 2, 2), with_one(ROUND, 2, 1, 0),
        with_one(ROUND, 0, 1, True), with_one(ROUND, 1, 0, True), with_both(ROUND, 0, 1, True),
        with_one(TWICE, 3, 1, False), with_both(TWICE, 0, 2, False), with_both(ROUND, 0, 2, -1),
        with_both(ROUND, 1, 2, -HUGE),
    ]
    wrong = [with_both(ROUND, 1, 2, thing) for thing in NO_WHOLE_NUMBERS]
    return whole + rows + sizes + numbers + wrong


class TreeOfTest(FarCase):
    def test_by_hand(self):
        self.told([], tree_of, [[0]])
        self.told([(0, 0)], tree_of, [[0, 0], [0, 0]])
        self.told([(0, 7)], tree_of, [[0, 7], [7, 0]])
        self.told([(0, 1), (1, 2)], tree_of, [[0, 1, 3], [1, 0, 2], [3, 2, 0]])
        self.told([(0, 1), (0, 2)], tree_of, [[0, 1, 2], [1, 0, 3], [2, 3, 0]])
        self.told([(0, 10 ** 18 - 1)], tree_of, [[0, 10 ** 18 - 1], [10 ** 18 - 1, 0]])

    def test_no_tree_has_them(self):
        for table in (ROUND, MIDDLE_LAST, LATE):
            self.told(None, tree_of, table)
        self.told(None, tree_of, [[0, 1, 5], [1, 0, 1], [5, 1, 0]])
        self.told(None, tree_of, [[0, 0, 1], [0, 0, 2], [1, 2, 0]])
        sixty = table_of(star([3] * 59))
        self.told(None, tree_of, with_both(sixty, 58, 59, 5))
        self.told(None, tree_of, with_both(sixty, 0, 59, 4))
        self.told(None, tree_of, with_both(sixty, 1, 2, 7))

    def test_the_first_of_several(self):
        self.told([(0, 4), (0, 0), (1, 0)], tree_of, TWICE)
        self.told(star([0] * 59), tree_of, zeros(60))
        self.told(star([0] * 4), tree_of, table_of(chain([0] * 4)))
        self.told([(0, 0), (0, 5), (2, 0)], tree_of, table_of([(0, 0), (1, 5), (2, 0)]))
        self.told([(0, 3), (0, 0), (1, 1)], tree_of, table_of([(0, 3), (0, 0), (1, 1)]))
        self.told([(0, 5), (1, 0), (1, 2), (3, 0)], tree_of, table_of([(0, 5), (1, 0), (2, 2), (3, 0)]))

    def test_back_from_its_distances(self):
        for tree in NOT_HUGE:
            table = table_of(tree)
            told = tree_of(table)
            self.told(told, tree_of, table)
            self.assertEqual(table_of(told), table)
            self.assertLessEqual(told, tree)
            if all(length > 0 for up, length in tree):
                self.assertTrue(exact(told) == exact(tree))

    def test_trees_of_sixty_with_long_roads(self):
        for tree in (chain([10 ** 14 + at for at in range(59)]), star([10 ** 15 - 1 - at for at in range(59)]),
                     [(at // 3, 10 ** 13 * (at + 1) + 7) for at in range(59)],
                     [(at * 7 % (at + 1), 1 if at % 2 else 10 ** 14) for at in range(59)]):
            self.told(tree, tree_of, table_of(tree))

    def test_every_small_table(self):
        for many, distances in ((1, (0,)), (2, range(4)), (3, range(5)), (4, range(4)), (5, (0, 1))):
            found = trees_by_table(many - 1, distances)
            for table in every_table(many, distances):
                right = found.get(as_key(table), [None])[0]
                self.assertTrue(exact(tree_of(table)) == exact(right), table)

    def test_every_small_tree(self):
        for trees in trees_by_table(4, (0, 1, 2)).values():
            self.assertEqual(tree_of(table_of(trees[-1])), trees[0])

    def test_a_told_tree_is_the_askers_own(self):
        for table in ([[0]], [[0, 0], [0, 0]], TWICE, table_of(MIXED), zeros(60)):
            self.askers_own(tree_of, table)


class MayHangOnTest(FarCase):
    def test_by_hand(self):
        self.told([0], may_hang_on, [[0, 7], [7, 0]], 1)
        self.told([0], may_hang_on, [[0, 0], [0, 0]], 1)
        self.told([], may_hang_on, ROUND, 2)
        self.told([0], may_hang_on, ROUND, 1)
        self.told([], may_hang_on, MIDDLE_LAST, 2)
        self.told([0], may_hang_on, TWICE, 2)
        self.told([1], may_hang_on, TWICE, 3)
        self.told([0, 2], may_hang_on, [[0, 1, 0, 5], [1, 0, 1, 6], [0, 1, 0, 5], [5, 6, 5, 0]], 3)
        self.told([0], may_hang_on, LATE, 1)
        self.told([1], may_hang_on, LATE, 2)
        self.told([], may_hang_on, LATE, 3)

    def test_behind_a_place_that_may_hang_on_none(self):
        self.told([3], may_hang_on, LATE, 4)

    def test_sixty_places(self):
        for p in (1, 2, 30, 59):
            self.told(list(range(p)), may_hang_on, zeros(60), p)
            self.told([p - 1], may_hang_on, table_of(chain([1] * 59)), p)
            self.told([0], may_hang_on, table_of(star([1] * 59)), p)

    def test_every_small_table_as_the_words_say(self):
        for many, distances in ((2, range(3)), (3, range(4)), (4, range(3)), (5, (0, 1))):
            for table in every_table(many, distances):
                for p in range(1, many):
                    right = []
                    for q in range(p):
                        wrong = [ahead for ahead in range(p) if table[p][ahead] != table[p][q] + table[q][ahead]]
                        if not wrong:
                            right.append(q)
                    self.assertEqual(may_hang_on(table, p), right)

    def test_the_ups_that_the_trees_of_a_table_have(self):
        for trees in trees_by_table(4, (0, 1, 2)).values():
            table = table_of(trees[0])
            for p in range(1, len(table)):
                self.told(sorted({tree[p - 1][0] for tree in trees}), may_hang_on, table, p)

    def test_a_told_list_is_the_askers_own(self):
        for table in (ROUND, TWICE, zeros(9), table_of(MIXED)):
            for p in range(1, len(table)):
                self.askers_own(may_hang_on, table, p)


class FirstHangingOnNoneTest(FarCase):
    def test_by_hand(self):
        self.told(None, first_hanging_on_none, [[0]])
        self.told(None, first_hanging_on_none, [[0, 7], [7, 0]])
        self.told(2, first_hanging_on_none, ROUND)
        self.told(2, first_hanging_on_none, MIDDLE_LAST)
        self.told(3, first_hanging_on_none, LATE)
        self.told(None, first_hanging_on_none, TWICE)
        self.told(None, first_hanging_on_none, zeros(60))

    def test_sixty_places(self):
        sixty = table_of(star([3] * 59))
        self.told(None, first_hanging_on_none, sixty)
        self.told(59, first_hanging_on_none, with_both(sixty, 58, 59, 5))
        self.told(59, first_hanging_on_none, with_both(sixty, 1, 59, 5))
        self.told(2, first_hanging_on_none, with_both(sixty, 1, 2, 7))
        self.told(30, first_hanging_on_none, with_both(sixty, 30, 12, 1))
        self.told(None, first_hanging_on_none, with_both(sixty, 30, 12, 0))

    def test_of_a_trees_table_none(self):
        for tree in NOT_HUGE:
            self.told(None, first_hanging_on_none, table_of(tree))

    def test_every_small_table(self):
        for many, distances in ((1, (0,)), (2, range(3)), (3, range(4)), (4, range(4)), (5, (0, 1))):
            found = trees_by_table(many - 1, distances)
            for table in every_table(many, distances):
                without = [p for p in range(1, many) if as_key(corner(table, p + 1)) not in found]
                self.assertEqual(first_hanging_on_none(table), without[0] if without else None)

    def test_there_is_a_tree_just_where_there_is_no_such_place(self):
        for table in every_table(4, range(3)):
            first = first_hanging_on_none(table)
            self.assertEqual(tree_of(table) is None, first is not None)
            empty = [p for p in range(1, 4) if may_hang_on(table, p) == []]
            self.assertEqual(first, empty[0] if empty else None)


class RefusedTest(FarCase):
    def test_no_table(self):
        for thing in no_tables():
            self.refused(NoTable, tree_of, thing)
            self.refused(NoTable, first_hanging_on_none, thing)
            self.refused(NoTable, may_hang_on, thing, 1)

    def test_things_within_things(self):
        thing = []
        for depth in range(28):
            thing = [thing]
        for wrong in (thing, [thing], [[0, thing], [thing, 0]]):
            self.refused(NoTable, tree_of, wrong)

    def test_one_to_sixty_places(self):
        for many in (1, 2, 59, 60):
            self.assertEqual(len(tree_of(zeros(many))), many - 1)
        for many in (0, 61, 62, 120):
            self.refused(NoTable, tree_of, zeros(many))
            self.refused(NoTable, first_hanging_on_none, zeros(many))
            self.refused(NoTable, may_hang_on, zeros(many), 1)

    def test_each_distance_alone(self):
        table = table_of(MIXED)
        for i in range(8):
            for j in range(8):
                for wrong in (table[i][j] + 1, -1, True, False, None, "0", [0], (0,)):
                    self.refused(NoTable, tree_of, with_one(table, i, j, wrong))

    def test_no_place(self):
        for table in ([[0]], [[0, 7], [7, 0]], ROUND, LATE, zeros(60)):
            many = len(table)
            for wrong in NO_WHOLE_NUMBERS + BELOW_ZERO + (0, many, many + 1, 60, 61, 10 ** 15 - 1, HUGE):
                self.refused(NoPlace, may_hang_on, table, wrong)

    def test_no_table_goes_first(self):
        for thing in no_tables():
            for wrong in (0, -1, 1, 2, 61, None, True, "1", [1], HUGE):
                self.refused(NoTable, may_hang_on, thing, wrong)
        for wrong in NO_WHOLE_NUMBERS + BELOW_ZERO:
            self.refused(NoTable, may_hang_on, zeros(61), wrong)
            self.refused(NoTable, may_hang_on, [[0, 1], [2, 0]], wrong)

    def test_a_table_that_its_owner_changes_is_not_kept(self):
        table = [[0, 7], [7, 0]]
        self.told([(0, 7)], tree_of, table)
        table[0][1] = 8
        self.refused(NoTable, tree_of, table)
        table[1][0] = 8
        self.told([(0, 8)], tree_of, table)
        self.refused(NoPlace, may_hang_on, table, 2)
        table[0].append(1)
        table[1].append(9)
        table.append([1, 9, 0])
        self.told([(0, 8), (0, 1)], tree_of, table)
        self.told([0], may_hang_on, table, 2)


if __name__ == "__main__":
    unittest.main()
