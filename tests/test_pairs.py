"""[2], [3], [7]: the distances with how many pairs have each, how many have one, and which."""

import unittest

from pairsfar.errors import NoNumber, NoTree
from pairsfar.pairs import distances_counted, how_many_at, how_many_from, pairs_at
from tests.helper import (BELOW_ZERO, HUGE, MIXED, NO_TREES, NO_WHOLE_NUMBERS, TREES, FarCase, chain, edges_of,
                          every_tree, pairs_by_distance, star)

SMALL = [(0, 1), (1, 1), (0, 0)]


class DistancesCountedTest(FarCase):
    def test_by_hand(self):
        self.told({}, distances_counted, [])
        self.told({0: 1}, distances_counted, [(0, 0)])
        self.told({7: 1}, distances_counted, [(0, 7)])
        self.told({0: 1, 1: 3, 2: 2}, distances_counted, SMALL)
        self.told({1: 3, 2: 2, 3: 1}, distances_counted, chain([1, 1, 1]))
        self.told({4: 4, 8: 6}, distances_counted, star([4] * 4))
        self.told({0: 1770}, distances_counted, star([0] * 59))
        self.told({1: 59, 2: 1711}, distances_counted, star([1] * 59))
        self.told({far: 60 - far for far in range(1, 60)}, distances_counted, chain([1] * 59))
        self.told({1: 1, HUGE: 1, HUGE + 1: 1}, distances_counted, [(0, HUGE), (1, 1)])

    def test_all_trees(self):
        for tree in TREES:
            right = {far: len(pairs) for far, pairs in sorted(pairs_by_distance(tree).items())}
            self.told(right, distances_counted, tree)

    def test_every_small_tree(self):
        for tree in every_tree(4, (0, 1, 2)):
            right = {far: len(pairs) for far, pairs in pairs_by_distance(tree).items()}
            self.assertEqual(distances_counted(tree), right)

    def test_a_told_dict_is_the_askers_own(self):
        for tree in ([], [(0, 7)], SMALL, MIXED):
            one = distances_counted(tree)
            other = distances_counted(tree)
            self.assertIsNot(one, other)
            right = dict(other)
            one[0] = 99
            one[12345] = 1
            self.assertEqual(other, right)
            one.clear()
            self.told(right, distances_counted, tree)
            self.told(sum(right.values()), how_many_from, tree, 0, 10 ** 18)


class HowManyAtTest(FarCase):
    def test_by_hand(self):
        self.told(0, how_many_at, [], 0)
        self.told(1, how_many_at, [(0, 0)], 0)
        self.told(0, how_many_at, [(0, 7)], 0)
        self.told(1, how_many_at, [(0, 7)], 7)
        self.told(0, how_many_at, [(0, 7)], 8)
        self.told(3, how_many_at, SMALL, 1)
        self.told(6, how_many_at, star([4] * 4), 8)
        self.told(1, how_many_at, [(0, HUGE), (1, 1)], HUGE + 1)

    def test_all_trees(self):
        for tree in TREES[:9]:
            right = pairs_by_distance(tree)
            for distance in edges_of(right):
                self.told(len(right.get(distance, [])), how_many_at, tree, distance)


class PairsAtTest(FarCase):
    def test_by_hand(self):
        self.told([], pairs_at, [], 0)
        self.told([(0, 1)], pairs_at, [(0, 0)], 0)
        self.told([], pairs_at, [(0, 7)], 0)
        self.told([(0, 1)], pairs_at, [(0, 7)], 7)
        self.told([(0, 1), (1, 2), (1, 3)], pairs_at, SMALL, 1)
        self.told([(0, 3)], pairs_at, SMALL, 0)
        self.told([(0, 2), (2, 3)], pairs_at, SMALL, 2)
        self.told([], pairs_at, SMALL, 3)
        self.told([(0, 59)], pairs_at, chain([1] * 59), 59)

    def test_all_trees(self):
        for tree in TREES[:9]:
            right = pairs_by_distance(tree)
            for distance in edges_of(right):
                self.told(sorted(right.get(distance, [])), pairs_at, tree, distance)

    def test_every_small_tree(self):
        for tree in every_tree(4, (0, 1, 2)):
            right = pairs_by_distance(tree)
            self.assertEqual([pairs_at(tree, far) for far in range(9)], [right.get(far, []) for far in range(9)])

    def test_a_told_list_is_the_askers_own(self):
        for distance in (0, 1, 2, 3):
            one = pairs_at(SMALL, distance)
            other = pairs_at(SMALL, distance)
            self.assertIsNot(one, other)
            right = list(other)
            one.append((8, 9))
            one[0] = None
            self.assertEqual(other, right)
            self.told(right, pairs_at, SMALL, distance)


class HowManyFromTest(FarCase):
    def test_by_hand(self):
        self.told(0, how_many_from, [], 0, 0)
        self.told(0, how_many_from, [], 0, 10 ** 18 - 1)
        self.told(1, how_many_from, [(0, 0)], 0, 0)
        self.told(0, how_many_from, [(0, 7)], 0, 6)
        self.told(0, how_many_from, [(0, 7)], 8, 9)
        self.told(1, how_many_from, [(0, 7)], 7, 7)
        self.told(1, how_many_from, [(0, 7)], 0, 7)
        self.told(1, how_many_from, [(0, 7)], 7, 8)
        self.told(4, how_many_from, SMALL, 0, 1)
        self.told(5, how_many_from, SMALL, 1, 2)
        self.told(1770, how_many_from, star([0] * 59), 0, 0)
        self.told(2, how_many_from, [(0, HUGE), (1, 1)], HUGE, HUGE + 1)

    def test_all_trees(self):
        for tree in TREES[:9]:
            right = pairs_by_distance(tree)
            edges = edges_of(right)
            for at, a in enumerate(edges):
                for b in edges[at:]:
                    many = sum(len(right[far]) for far in right if a <= far <= b)
                    self.assertEqual(how_many_from(tree, a, b), many)
                self.told(len(right.get(a, [])), how_many_from, tree, a, a)


class RefusedTest(FarCase):
    def test_no_tree(self):
        for thing in NO_TREES:
            self.refused(NoTree, distances_counted, thing)
            self.refused(NoTree, how_many_at, thing, 0)
            self.refused(NoTree, pairs_at, thing, 0)
            self.refused(NoTree, how_many_from, thing, 0, 1)

    def test_no_number(self):
        for tree in ([], [(0, 0)], [(0, 1)], MIXED):
            for wrong in NO_WHOLE_NUMBERS + BELOW_ZERO:
                self.refused(NoNumber, how_many_at, tree, wrong)
                self.refused(NoNumber, pairs_at, tree, wrong)
                self.refused(NoNumber, how_many_from, tree, wrong, 3)
                self.refused(NoNumber, how_many_from, tree, 0, wrong)
                self.refused(NoNumber, how_many_from, tree, wrong, wrong)

    def test_a_above_b(self):
        for tree in ([], [(0, 0)], MIXED):
            for a, b in ((1, 0), (8, 7), (10 ** 17, 3), (HUGE + 1, HUGE)):
                self.refused(NoNumber, how_many_from, tree, a, b)

    def test_no_tree_goes_first(self):
        for thing in (None, [(1, 1)], [(0, True)], [(0, 1)] * 60, ((0, 1),)):
            for wrong in NO_WHOLE_NUMBERS + BELOW_ZERO:
                self.refused(NoTree, how_many_at, thing, wrong)
                self.refused(NoTree, pairs_at, thing, wrong)
                self.refused(NoTree, how_many_from, thing, wrong, 3)
                self.refused(NoTree, how_many_from, thing, 0, wrong)
                self.refused(NoTree, how_many_from, thing, wrong, wrong)
            self.refused(NoTree, how_many_from, thing, 2, 1)

    def test_behind_a_refusal_all_is_as_before(self):
        tree = list(SMALL)
        self.refused(NoNumber, pairs_at, tree, -1)
        self.refused(NoNumber, how_many_from, tree, 2, 1)
        self.refused(NoTree, distances_counted, tree + [(0, -1)])
        self.told({0: 1, 1: 3, 2: 2}, distances_counted, tree)
        self.told([(0, 2), (2, 3)], pairs_at, tree, 2)

    def test_a_tree_that_its_owner_changes_is_not_kept(self):
        tree = [(0, 1)]
        self.told({1: 1}, distances_counted, tree)
        tree.append((1, 1))
        self.told({1: 2, 2: 1}, distances_counted, tree)
        tree[0] = (0, 5)
        self.told({1: 1, 5: 1, 6: 1}, distances_counted, tree)
        self.told(1, how_many_at, tree, 6)
        self.told([(0, 1)], pairs_at, tree, 5)
        self.told(2, how_many_from, tree, 2, 6)


if __name__ == "__main__":
    unittest.main()
