"""[2], [3], [8], [9]: how far all are from a place, which are at a distance, the farthest pair, and the middles."""

import unittest

from pairsfar.around import distances_from, farthest, middles, places_at, sum_middles
from pairsfar.errors import NoNumber, NoPlace, NoTree
from tests.helper import (ALL, BELOW_ZERO, HUGE, MIXED, NO_TREES, NO_WHOLE_NUMBERS, SOME_NO_TREES, TREES, FarCase,
                          all_pairs, chain, every_tree, star, walk)

BROOM = [(0, 2), (1, 2), (2, 0), (2, 5), (2, 5)]


def distances(tree, i):
    found = walk(tree, i)
    return [found[place][0] for place in range(len(tree) + 1)]


def right_farthest(tree):
    """The first pair of the greatest distance, by looking at all."""
    if not tree:
        return None
    greatest = max(distance for distance, pair, way in all_pairs(tree))
    return greatest, min(pair for distance, pair, way in all_pairs(tree) if distance == greatest)


def right_middles(tree, measure):
    """The places where the measure of the distances is least, by looking at all."""
    told = [measure(distances(tree, place)) for place in range(len(tree) + 1)]
    return min(told), [place for place in range(len(tree) + 1) if told[place] == min(told)]


class DistancesFromTest(FarCase):
    def test_by_hand(self):
        self.told([0], distances_from, [], 0)
        self.told([0, 0], distances_from, [(0, 0)], 0)
        self.told([0, 7], distances_from, [(0, 7)], 0)
        self.told([7, 0], distances_from, [(0, 7)], 1)
        self.told([3, 2, 0, 3], distances_from, chain([1, 2, 3]), 2)
        self.told([4, 8, 0, 8, 8], distances_from, star([4] * 4), 2)
        self.told([4, 2, 0, 0, 5, 5], distances_from, BROOM, 2)
        self.told([9, 7, 5, 5, 0, 10], distances_from, BROOM, 4)
        self.told([HUGE + 1, 1, 0], distances_from, [(0, HUGE), (1, 1)], 2)
        self.told(list(range(59, -1, -1)), distances_from, chain([1] * 59), 59)

    def test_all_trees_from_all_places(self):
        for tree in TREES:
            for i in range(len(tree) + 1):
                self.assertEqual(distances_from(tree, i), distances(tree, i))
            self.told(distances(tree, len(tree)), distances_from, tree, len(tree))

    def test_a_told_list_is_the_askers_own(self):
        for tree in ([], [(0, 0)], BROOM, MIXED):
            for i in range(len(tree) + 1):
                self.askers_own(distances_from, tree, i)


class PlacesAtTest(FarCase):
    def test_by_hand(self):
        self.told([0], places_at, [], 0, 0)
        self.told([], places_at, [], 0, 1)
        self.told([0, 1], places_at, [(0, 0)], 1, 0)
        self.told([1], places_at, [(0, 7)], 1, 0)
        self.told([0], places_at, [(0, 7)], 1, 7)
        self.told([], places_at, [(0, 7)], 1, 6)
        self.told([], places_at, [(0, 7)], 1, 8)
        self.told([2, 3], places_at, BROOM, 2, 0)
        self.told([2, 3], places_at, BROOM, 3, 0)
        self.told([4, 5], places_at, BROOM, 2, 5)
        self.told([1, 3, 4], places_at, star([4] * 4), 2, 8)
        self.told([0, 2], places_at, chain([1, 1, 1]), 1, 1)
        self.told(list(range(60)), places_at, star([0] * 59), 30, 0)
        self.told([0], places_at, [(0, HUGE), (1, 1)], 2, HUGE + 1)
        self.told([], places_at, BROOM, 2, ALL)

    def test_all_trees_from_all_places(self):
        for tree in TREES[:10]:
            for i in range(len(tree) + 1):
                far = distances(tree, i)
                for distance in sorted({0, 1, 2, 3, 10 ** 14}.union(far, (one + 1 for one in far))):
                    right = [place for place in range(len(far)) if far[place] == distance]
                    self.told(right, places_at, tree, i, distance)

    def test_a_place_is_at_0_from_itself(self):
        for tree in TREES:
            for i in range(len(tree) + 1):
                self.assertIn(i, places_at(tree, i, 0))

    def test_a_told_list_is_the_askers_own(self):
        for distance in (0, 1, 2, 5):
            for i in range(6):
                self.askers_own(places_at, BROOM, i, distance)


class FarthestTest(FarCase):
    def test_by_hand(self):
        self.told(None, farthest, [])
        self.told((0, (0, 1)), farthest, [(0, 0)])
        self.told((7, (0, 1)), farthest, [(0, 7)])
        self.told((6, (0, 3)), farthest, chain([1, 2, 3]))
        self.told((10, (4, 5)), farthest, BROOM)
        self.told((0, (0, 1)), farthest, chain([0] * 4))
        self.told((8, (1, 2)), farthest, star([4] * 4))
        self.told((1, (0, 2)), farthest, star([0, 1, 0]))
        self.told((2 * HUGE + 2, (3, 4)), farthest, [(0, HUGE), (0, HUGE), (1, 1), (2, 1)])
        self.told((59, (0, 59)), farthest, chain([1] * 59))
        self.told((2, (1, 2)), farthest, star([1] * 59))
        self.told((0, (0, 1)), farthest, star([0] * 59))

    def test_all_trees(self):
        for tree in TREES:
            self.told(right_farthest(tree), farthest, tree)

    def test_every_small_tree(self):
        for tree in every_tree(4, (0, 1, 2)):
            self.assertEqual(farthest(tree), right_farthest(tree))


class MiddlesTest(FarCase):
    def test_by_greatest_distance_by_hand(self):
        self.told((0, [0]), middles, [])
        self.told((0, [0, 1]), middles, [(0, 0)])
        self.told((7, [0, 1]), middles, [(0, 7)])
        self.told((3, [2]), middles, chain([1, 2, 3]))
        self.told((2, [1, 2]), middles, chain([1, 1, 1]))
        self.told((4, [0]), middles, star([4] * 4))
        self.told((4, [0, 1]), middles, star([0, 4, 4]))
        self.told((5, [2, 3]), middles, BROOM)
        self.told((0, list(range(60))), middles, star([0] * 59))
        self.told((30, [29, 30]), middles, chain([1] * 59))
        self.told((HUGE, [0, 1]), middles, [(0, HUGE)])

    def test_by_sum_by_hand(self):
        self.told((0, [0]), sum_middles, [])
        self.told((0, [0, 1]), sum_middles, [(0, 0)])
        self.told((7, [0, 1]), sum_middles, [(0, 7)])
        self.told((8, [1, 2]), sum_middles, chain([1, 2, 3]))
        self.told((4, [1, 2]), sum_middles, chain([1, 1, 1]))
        self.told((16, [0]), sum_middles, star([4] * 4))
        self.told((8, [0, 1]), sum_middles, star([0, 4, 4]))
        self.told((16, [2, 3]), sum_middles, BROOM)
        self.told((0, list(range(60))), sum_middles, star([0] * 59))
        self.told((900, [29, 30]), sum_middles, chain([1] * 59))
        self.told((HUGE, [0, 1]), sum_middles, [(0, HUGE)])

    def test_the_two_may_differ(self):
        tree = [(0, 10), (0, 1), (0, 1), (0, 1), (1, 1)]
        self.told((10, [1]), middles, [(0, 10), (1, 1), (1, 1)])
        self.told((12, [1]), sum_middles, [(0, 10), (1, 1), (1, 1)])
        self.told((11, [0, 1]), middles, tree)
        self.told((24, [0]), sum_middles, tree)

    def test_all_trees(self):
        for tree in TREES:
            self.told(right_middles(tree, max), middles, tree)
            self.told(right_middles(tree, sum), sum_middles, tree)

    def test_every_small_tree(self):
        for tree in every_tree(4, (0, 1, 2)):
            self.assertEqual(middles(tree), right_middles(tree, max))
            self.assertEqual(sum_middles(tree), right_middles(tree, sum))

    def test_told_lists_are_the_askers_own(self):
        for tree in ([], [(0, 0)], [(0, 7)], BROOM, MIXED):
            self.askers_own(middles, tree)
            self.askers_own(sum_middles, tree)


class RefusedTest(FarCase):
    def test_no_tree(self):
        for thing in NO_TREES:
            self.refused(NoTree, distances_from, thing, 0)
            self.refused(NoTree, places_at, thing, 0, 0)
            self.refused(NoTree, farthest, thing)
            self.refused(NoTree, middles, thing)
            self.refused(NoTree, sum_middles, thing)

    def test_no_place(self):
        for tree in ([], [(0, 1)], BROOM, chain([1] * 59)):
            many = len(tree) + 1
            for wrong in NO_WHOLE_NUMBERS + BELOW_ZERO + (many, many + 1, 60, 61, 10 ** 15, HUGE):
                self.refused(NoPlace, distances_from, tree, wrong)
                self.refused(NoPlace, places_at, tree, wrong, 0)

    def test_no_number(self):
        for tree in ([], [(0, 1)], BROOM):
            for wrong in NO_WHOLE_NUMBERS + BELOW_ZERO:
                self.refused(NoNumber, places_at, tree, 0, wrong)
                self.refused(NoNumber, places_at, tree, len(tree), wrong)

    def test_no_tree_goes_first_then_no_place(self):
        for wrong in NO_WHOLE_NUMBERS + BELOW_ZERO:
            for thing in SOME_NO_TREES:
                self.refused(NoTree, distances_from, thing, wrong)
                self.refused(NoTree, places_at, thing, wrong, 0)
                self.refused(NoTree, places_at, thing, 0, wrong)
                self.refused(NoTree, places_at, thing, wrong, wrong)
            for place in (True, None, "0", -1, [0], 6):
                self.refused(NoPlace, places_at, BROOM, place, wrong)

    def test_behind_a_refusal_all_is_as_before(self):
        tree = list(BROOM)
        self.refused(NoPlace, distances_from, tree, 6)
        self.refused(NoNumber, places_at, tree, 0, -1)
        self.refused(NoTree, middles, tree + [(7, 1)])
        self.told([4, 2, 0, 0, 5, 5], distances_from, tree, 2)
        self.told((10, (4, 5)), farthest, tree)

    def test_a_tree_that_its_owner_changes_is_not_kept(self):
        tree = [(0, 1)]
        self.told((1, (0, 1)), farthest, tree)
        self.told((1, [0, 1]), middles, tree)
        tree.append((1, 3))
        self.told((4, (0, 2)), farthest, tree)
        self.told((3, [1]), middles, tree)
        self.told((4, [1]), sum_middles, tree)
        self.told([1, 0, 3], distances_from, tree, 1)


if __name__ == "__main__":
    unittest.main()
