"""[2], [3], [13], [14]: how many pairs go over each road and past each place, and the way that two have in common."""

import unittest

from pairsfar.errors import NoNumber, NoPair, NoTree
from pairsfar.roads import pairs_over_roads, pairs_past_places, way_in_common
from tests.helper import (ALL, BELOW_ZERO, FORK, HUGE, MIXED, NO_TREES, NO_WHOLE_NUMBERS, SOME_NO_TREES, TREES, FarCase,
                          all_pairs, chain, every_tree, no_pairs, spans_of, star)

# 3 - 1 - 0 - 2 - 4, with 5 and 6 at place 1 and 7 at place 4
LONG = [(0, 3), (0, 0), (1, 2), (2, 4), (1, 1), (1, 1), (4, 6)]


def right_roads(tree, a, b):
    """How many ways have both ends of each tuple's road side by side, by looking at all."""
    ways = [way for distance, pair, way in all_pairs(tree) if a <= distance <= b]
    steps = [set(zip(way, way[1:])) | set(zip(way[1:], way)) for way in ways]
    return [sum((at + 1, up) in step for step in steps) for at, (up, length) in enumerate(tree)]


def right_places(tree, a, b):
    """How many ways have each place between their ends, by looking at all."""
    told = [0] * (len(tree) + 1)
    for distance, (i, j), way in all_pairs(tree):
        for place in range(len(told)):
            if a <= distance <= b and place in way and place not in (i, j):
                told[place] += 1
    return told


def right_common(tree, one, other):
    """The roads of which both ways have both ends, by looking at the ways of all pairs."""
    ways = {pair: way for distance, pair, way in all_pairs(tree)}
    roads = [at + 1 for at, (up, length) in enumerate(tree)
             if all(up in ways[pair] and at + 1 in ways[pair] for pair in (one, other))]
    return sum(tree[road - 1][1] for road in roads), roads


class PairsOverRoadsTest(FarCase):
    def test_by_hand(self):
        self.told([], pairs_over_roads, [], 0, ALL)
        self.told([1], pairs_over_roads, [(0, 0)], 0, 0)
        self.told([0], pairs_over_roads, [(0, 0)], 1, 1)
        self.told([1], pairs_over_roads, [(0, 7)], 7, 7)
        self.told([0], pairs_over_roads, [(0, 7)], 0, 6)
        self.told([0], pairs_over_roads, [(0, 7)], 8, ALL)
        self.told([4, 3, 3], pairs_over_roads, FORK, 0, ALL)
        self.told([1, 1, 0], pairs_over_roads, FORK, 1, 1)
        self.told([2, 1, 2], pairs_over_roads, FORK, 2, 3)
        self.told([1, 1, 1], pairs_over_roads, FORK, 4, 4)
        self.told([0, 0, 0], pairs_over_roads, FORK, 5, 9)
        self.told([3, 4, 3], pairs_over_roads, chain([1, 2, 3]), 0, ALL)
        self.told([4] * 4, pairs_over_roads, star([4] * 4), 0, ALL)
        self.told([3] * 4, pairs_over_roads, star([4] * 4), 8, 8)
        self.told([59] * 59, pairs_over_roads, star([0] * 59), 0, 0)
        self.told([at * (60 - at) for at in range(1, 60)], pairs_over_roads, chain([1] * 59), 0, 59)
        self.told([1, 1], pairs_over_roads, [(0, HUGE), (1, 1)], HUGE + 1, HUGE + 1)

    def test_all_trees(self):
        for tree in TREES[:10]:
            for a, b in spans_of(tree):
                self.told(right_roads(tree, a, b), pairs_over_roads, tree, a, b)

    def test_trees_of_sixty(self):
        for tree in TREES[10:]:
            for a, b in ((0, ALL), (3, 3), (2, 40)):
                self.assertEqual(pairs_over_roads(tree, a, b), right_roads(tree, a, b))

    def test_every_small_tree(self):
        for tree in every_tree(3, (0, 1, 2)):
            for a in range(7):
                for b in range(a, 7):
                    self.assertEqual(pairs_over_roads(tree, a, b), right_roads(tree, a, b))

    def test_a_told_list_is_the_askers_own(self):
        for tree in ([], [(0, 0)], FORK, MIXED):
            for a, b in ((0, 0), (0, 9), (1, 4), (50, 60)):
                self.askers_own(pairs_over_roads, tree, a, b)


class PairsPastPlacesTest(FarCase):
    def test_by_hand(self):
        self.told([0], pairs_past_places, [], 0, ALL)
        self.told([0, 0], pairs_past_places, [(0, 0)], 0, 0)
        self.told([0, 0], pairs_past_places, [(0, 7)], 0, ALL)
        self.told([2, 2, 0, 0], pairs_past_places, FORK, 0, ALL)
        self.told([0, 0, 0, 0], pairs_past_places, FORK, 1, 1)
        self.told([1, 1, 0, 0], pairs_past_places, FORK, 2, 3)
        self.told([1, 1, 0, 0], pairs_past_places, FORK, 4, 4)
        self.told([0, 2, 2, 0], pairs_past_places, chain([1, 2, 3]), 0, ALL)
        self.told([6, 0, 0, 0, 0], pairs_past_places, star([4] * 4), 0, ALL)
        self.told([0, 0, 0, 0, 0], pairs_past_places, star([4] * 4), 4, 7)
        self.told([1711] + [0] * 59, pairs_past_places, star([0] * 59), 0, 0)
        self.told([at * (59 - at) for at in range(60)], pairs_past_places, chain([0] * 59), 0, 0)
        self.told([0, 1, 0], pairs_past_places, [(0, HUGE), (1, 1)], HUGE + 1, HUGE + 1)

    def test_all_trees(self):
        for tree in TREES[:10]:
            for a, b in spans_of(tree):
                self.told(right_places(tree, a, b), pairs_past_places, tree, a, b)

    def test_trees_of_sixty(self):
        for tree in TREES[10:]:
            for a, b in ((0, ALL), (3, 3)):
                self.assertEqual(pairs_past_places(tree, a, b), right_places(tree, a, b))

    def test_every_small_tree(self):
        for tree in every_tree(3, (0, 1, 2)):
            for a in range(7):
                for b in range(a, 7):
                    self.assertEqual(pairs_past_places(tree, a, b), right_places(tree, a, b))

    def test_a_told_list_is_the_askers_own(self):
        for tree in ([], [(0, 0)], FORK, MIXED):
            for a, b in ((0, 0), (0, 9), (1, 4), (50, 60)):
                self.askers_own(pairs_past_places, tree, a, b)


class WayInCommonTest(FarCase):
    def both_ways(self, expected, tree, one, other):
        self.told(expected, way_in_common, tree, one, other)
        self.told(expected, way_in_common, tree, other, one)

    def test_where_they_meet(self):
        self.both_ways((3, [1, 2]), LONG, (2, 3), (4, 5))
        self.both_ways((7, [1, 2, 4]), LONG, (3, 4), (5, 7))
        self.both_ways((4, [4]), LONG, (0, 7), (2, 4))
        self.both_ways((3, [1]), LONG, (0, 3), (1, 4))
        self.both_ways((HUGE, [1]), [(0, HUGE), (1, 1), (0, 2)], (0, 2), (1, 3))
        self.both_ways((57, list(range(2, 59))), chain([1] * 59), (0, 58), (1, 59))

    def test_where_they_meet_at_no_road(self):
        self.both_ways((0, []), LONG, (1, 3), (0, 2))
        self.both_ways((0, []), LONG, (3, 5), (0, 6))
        self.both_ways((0, []), LONG, (5, 6), (1, 3))
        self.both_ways((0, []), star([4] * 4), (1, 2), (3, 4))
        self.both_ways((0, []), chain([1, 1, 1]), (0, 1), (2, 3))

    def test_where_the_roads_have_lengths_of_0(self):
        self.both_ways((0, [2]), LONG, (0, 4), (1, 2))
        self.both_ways((0, [1, 2, 3]), chain([0, 0, 0]), (0, 3), (0, 3))
        self.both_ways((0, [2, 3]), chain([5, 0, 0, 5]), (0, 3), (1, 4))
        self.both_ways((0, [1]), [(0, 0)], (0, 1), (0, 1))

    def test_alike_ones(self):
        for tree in (FORK, LONG, MIXED):
            for distance, pair, way in all_pairs(tree):
                roads = sorted(max(here, there) for here, there in zip(way, way[1:]))
                self.told((distance, roads), way_in_common, tree, pair, pair)
        self.told((7, [1]), way_in_common, [(0, 7)], (0, 1), (0, 1))

    def test_with_a_place_in_common(self):
        self.both_ways((3, [1]), LONG, (0, 3), (0, 5))
        self.both_ways((2, [3]), LONG, (0, 3), (3, 6))
        self.both_ways((0, []), LONG, (1, 3), (0, 1))
        self.both_ways((7, [1, 2, 4]), LONG, (3, 7), (1, 4))
        self.both_ways((8, [1, 2, 4, 5]), LONG, (5, 7), (4, 5))

    def test_all_pairs_of_some_trees(self):
        for tree in TREES[:10] + (FORK, LONG):
            pairs = [pair for distance, pair, way in all_pairs(tree)]
            for one in pairs:
                for other in pairs:
                    self.assertEqual(way_in_common(tree, one, other), right_common(tree, one, other))

    def test_trees_of_sixty(self):
        for tree in TREES[10:]:
            for one, other in (((0, 59), (17, 58)), ((3, 44), (5, 20)), ((30, 31), (1, 59)), ((2, 9), (9, 50))):
                self.both_ways(right_common(tree, one, other), tree, one, other)

    def test_a_told_list_is_the_askers_own(self):
        for one, other in (((0, 3), (0, 5)), ((1, 3), (0, 2)), ((3, 4), (3, 4))):
            self.askers_own(way_in_common, LONG, one, other)


class RefusedTest(FarCase):
    def both_refused(self, kind, tree, a, b):
        self.refused(kind, pairs_over_roads, tree, a, b)
        self.refused(kind, pairs_past_places, tree, a, b)

    def test_no_tree(self):
        for thing in NO_TREES:
            self.both_refused(NoTree, thing, 0, 9)
            self.refused(NoTree, way_in_common, thing, (0, 1), (0, 1))

    def test_no_number(self):
        for tree in ([], [(0, 0)], FORK):
            for wrong in NO_WHOLE_NUMBERS + BELOW_ZERO:
                self.both_refused(NoNumber, tree, wrong, 9)
                self.both_refused(NoNumber, tree, 0, wrong)
                self.both_refused(NoNumber, tree, wrong, wrong)
            for a, b in ((1, 0), (3, 2), (10 ** 17, 3), (HUGE + 1, HUGE)):
                self.both_refused(NoNumber, tree, a, b)

    def test_no_pair(self):
        for tree in ([(0, 1)], FORK, chain([1] * 59)):
            for wrong in no_pairs(tree):
                self.refused(NoPair, way_in_common, tree, wrong, (0, 1))
                self.refused(NoPair, way_in_common, tree, (0, 1), wrong)
                self.refused(NoPair, way_in_common, tree, wrong, wrong)
        for wrong in no_pairs([]):
            self.refused(NoPair, way_in_common, [], wrong, (0, 1))
            self.refused(NoPair, way_in_common, [], wrong, wrong)

    def test_no_tree_goes_first(self):
        for thing in SOME_NO_TREES:
            for wrong in NO_WHOLE_NUMBERS + BELOW_ZERO:
                self.both_refused(NoTree, thing, wrong, 9)
                self.both_refused(NoTree, thing, 0, wrong)
                self.both_refused(NoTree, thing, wrong, wrong)
            self.both_refused(NoTree, thing, 2, 1)
            for wrong in no_pairs(FORK):
                self.refused(NoTree, way_in_common, thing, wrong, (0, 1))
                self.refused(NoTree, way_in_common, thing, (0, 1), wrong)
                self.refused(NoTree, way_in_common, thing, wrong, wrong)

    def test_behind_a_refusal_all_is_as_before(self):
        tree = list(FORK)
        self.refused(NoNumber, pairs_over_roads, tree, 2, 1)
        self.refused(NoNumber, pairs_past_places, tree, -1, 1)
        self.refused(NoPair, way_in_common, tree, (0, 1), (0, 4))
        self.refused(NoTree, pairs_over_roads, tree + [(9, 9)], 0, 1)
        self.told([4, 3, 3], pairs_over_roads, tree, 0, ALL)
        self.told([2, 2, 0, 0], pairs_past_places, tree, 0, ALL)
        self.told((2, [1, 2]), way_in_common, tree, (1, 2), (2, 3))

    def test_a_tree_that_its_owner_changes_is_not_kept(self):
        tree = [(0, 1)]
        self.told([1], pairs_over_roads, tree, 0, 9)
        tree.append((1, 3))
        self.told([2, 2], pairs_over_roads, tree, 0, 9)
        self.told([0, 1, 0], pairs_past_places, tree, 0, 9)
        self.told((3, [2]), way_in_common, tree, (0, 2), (1, 2))
        tree[1] = (0, 5)
        self.told([1, 0, 0], pairs_past_places, tree, 0, 9)
        self.told((5, [2]), way_in_common, tree, (0, 2), (1, 2))


if __name__ == "__main__":
    unittest.main()
