"""[2], [3], [5], [6]: what is a tree, what is a place, how far two places are, the way between them."""

import unittest

from pairsfar.errors import NoPlace, NoTree
from pairsfar.trees import how_far, is_tree, way_between
from tests.helper import (BELOW_ZERO, HUGE, MIXED, NO_TREES, NO_WHOLE_NUMBERS, TREES, FarCase, chain, every_tree, star,
                          walk)


class IsTreeTest(FarCase):
    def test_trees(self):
        for tree in TREES:
            self.told(True, is_tree, tree)

    def test_no_trees(self):
        for thing in NO_TREES:
            self.told(False, is_tree, thing)

    def test_how_many_tuples(self):
        self.told(True, is_tree, [])
        for many in (1, 58, 59):
            self.told(True, is_tree, star([1] * many))
            self.told(True, is_tree, chain([0] * many))
        for many in (60, 61, 120):
            self.told(False, is_tree, star([1] * many))
            self.told(False, is_tree, chain([0] * many))

    def test_ups(self):
        for at in range(59):
            ahead = chain([1] * at)
            self.told(True, is_tree, ahead + [(0, 1)])
            self.told(True, is_tree, ahead + [(at, 1)])
            self.told(False, is_tree, ahead + [(at + 1, 1)])
            self.told(False, is_tree, ahead + [(at + 2, 1)])
            self.told(False, is_tree, ahead + [(-1, 1)])

    def test_lengths(self):
        for length in (0, 1, 10 ** 14, 10 ** 15, 10 ** 18, HUGE):
            self.told(True, is_tree, [(0, length)])
        for length in BELOW_ZERO + NO_WHOLE_NUMBERS:
            self.told(False, is_tree, [(0, length)])

    def test_one_wrong_tuple_anywhere(self):
        for wrong in ([0, 1], (0,), (0, 1, 2), (0, -1), (-1, 0), (60, 0), (False, 0), (0, True), None, "01", {}):
            for at in (0, 1, 6, 7):
                self.told(False, is_tree, MIXED[:at] + [wrong] + MIXED[at:])

    def test_things_within_things(self):
        thing = []
        for depth in range(30):
            thing = [thing]
        self.told(False, is_tree, thing)
        self.told(False, is_tree, [(0, thing)])


class HowFarTest(FarCase):
    def test_by_hand(self):
        self.told(0, how_far, [], 0, 0)
        self.told(7, how_far, [(0, 7)], 0, 1)
        self.told(7, how_far, [(0, 7)], 1, 0)
        self.told(0, how_far, [(0, 0)], 0, 1)
        self.told(6, how_far, chain([1, 2, 3]), 0, 3)
        self.told(5, how_far, chain([1, 2, 3]), 3, 1)
        self.told(7, how_far, star([3, 4]), 1, 2)
        self.told(18, how_far, MIXED, 7, 6)
        self.told(2 * HUGE + 2, how_far, [(0, HUGE), (0, HUGE), (1, 1), (2, 1)], 3, 4)

    def test_all_places_of_all_trees(self):
        for tree in TREES:
            for i in range(len(tree) + 1):
                found = walk(tree, i)
                for j in range(len(tree) + 1):
                    self.told(found[j][0], how_far, tree, i, j)

    def test_every_small_tree(self):
        for tree in every_tree(4, (0, 1, 5)):
            for i in range(5):
                found = walk(tree, i)
                self.assertEqual([how_far(tree, i, j) for j in range(5)], [found[j][0] for j in range(5)])

    def test_first_and_last_place(self):
        tree = chain(range(59))
        self.told(sum(range(59)), how_far, tree, 0, 59)
        self.told(0, how_far, tree, 0, 0)
        self.told(0, how_far, tree, 59, 59)


class WayBetweenTest(FarCase):
    def test_by_hand(self):
        self.told([0], way_between, [], 0, 0)
        self.told([0, 1], way_between, [(0, 0)], 0, 1)
        self.told([1, 0], way_between, [(0, 7)], 1, 0)
        self.told([1], way_between, [(0, 7)], 1, 1)
        self.told([3, 2, 1], way_between, chain([1, 2, 3]), 3, 1)
        self.told([2, 0, 1], way_between, star([3, 4]), 2, 1)
        self.told([7, 3, 1, 0, 2, 5, 6], way_between, MIXED, 7, 6)
        self.told([4, 1, 3, 7], way_between, MIXED, 4, 7)

    def test_all_places_of_all_trees(self):
        for tree in TREES:
            for i in range(len(tree) + 1):
                found = walk(tree, i)
                for j in range(len(tree) + 1):
                    self.told(found[j][1], way_between, tree, i, j)

    def test_every_small_tree(self):
        for tree in every_tree(5, (0,)):
            for i in range(6):
                found = walk(tree, i)
                self.assertEqual([way_between(tree, i, j) for j in range(6)], [found[j][1] for j in range(6)])

    def test_a_told_way_is_the_askers_own(self):
        for i, j in ((7, 6), (0, 0), (0, 7), (7, 0), (1, 7)):
            right = walk(MIXED, i)[j][1]
            one = self.told(right, way_between, MIXED, i, j)
            other = way_between(MIXED, i, j)
            self.assertIsNot(one, other)
            one.append(99)
            one[0] = None
            self.assertEqual(other, right)
            self.told(right, way_between, MIXED, i, j)


class RefusedTest(FarCase):
    CALLS = (how_far, way_between)

    def test_no_tree(self):
        for call in self.CALLS:
            for thing in NO_TREES:
                self.refused(NoTree, call, thing, 0, 0)

    def test_no_place(self):
        for call in self.CALLS:
            for tree in ([], [(0, 4)], MIXED, star([1] * 59)):
                many = len(tree) + 1
                for wrong in NO_WHOLE_NUMBERS + BELOW_ZERO + (many, many + 1, 10 ** 15, HUGE):
                    self.refused(NoPlace, call, tree, wrong, 0)
                    self.refused(NoPlace, call, tree, 0, wrong)
                    self.refused(NoPlace, call, tree, wrong, wrong)

    def test_no_tree_goes_first(self):
        for call in self.CALLS:
            for thing in (None, [(1, 1)], [(0, True)], [(0, 1)] * 60, ((0, 1),)):
                for wrong in NO_WHOLE_NUMBERS + BELOW_ZERO + (2, 60, 61, HUGE):
                    self.refused(NoTree, call, thing, wrong, 0)
                    self.refused(NoTree, call, thing, 0, wrong)
                    self.refused(NoTree, call, thing, wrong, wrong)

    def test_behind_a_refusal_all_is_as_before(self):
        tree = list(MIXED)
        for call, right in ((how_far, 18), (way_between, [7, 3, 1, 0, 2, 5, 6])):
            self.told(right, call, tree, 7, 6)
            self.refused(NoPlace, call, tree, 7, 8)
            self.refused(NoTree, call, tree + [(9, 0)], 7, 6)
            self.told(right, call, tree, 7, 6)

    def test_a_tree_that_its_owner_changes_is_not_kept(self):
        tree = [(0, 1), (1, 2)]
        self.told(3, how_far, tree, 0, 2)
        tree[1] = (0, 9)
        self.told(9, how_far, tree, 0, 2)
        self.told([0, 2], way_between, tree, 0, 2)
        tree.append((2, 1))
        self.told(10, how_far, tree, 3, 0)
        tree.append((5, 1))
        self.refused(NoTree, how_far, tree, 3, 0)


if __name__ == "__main__":
    unittest.main()
