"""[2], [3], [11], [12]: the pair with a number, the number of a pair, and the pair with a number from a to b."""

import unittest

from pairsfar.errors import NoNumber, NoPair, NoTree
from pairsfar.numbered import nth_from, nth_pair, number_of_pair
from tests.helper import (ALL, BELOW_ZERO, FORK, HUGE, MIXED, NO_TREES, NO_WHOLE_NUMBERS, SOME_NO_TREES, TREES, FarCase,
                          all_pairs, chain, every_tree, no_pairs, spans_of, star)

IN_ORDER = [(0, 1), (0, 2), (1, 2), (1, 3), (0, 3), (2, 3)]


def right_order(tree, a, b, far):
    """The pairs from a to b in their order, by sorting them all."""
    turn = -1 if far else 1
    return [pair for key, pair in sorted((turn * distance, pair) for distance, pair, way in all_pairs(tree)
                                         if a <= distance <= b)]


class NthPairTest(FarCase):
    def test_by_hand(self):
        self.told((0, 1), nth_pair, [(0, 0)], 0)
        self.told((0, 1), nth_pair, [(0, 7)], 0)
        for n, pair in enumerate(IN_ORDER):
            self.told(pair, nth_pair, FORK, n)
        for n, pair in enumerate([(0, 1), (1, 2), (0, 2), (2, 3), (1, 3), (0, 3)]):
            self.told(pair, nth_pair, chain([1, 2, 4]), n)
        for n, pair in enumerate([(0, 3), (0, 2), (2, 3), (0, 1), (1, 3), (1, 2)]):
            self.told(pair, nth_pair, star([9, 5, 2]), n)
        for n, pair in enumerate([(1, 2), (0, 1), (0, 2)]):
            self.told(pair, nth_pair, [(0, HUGE), (1, 1)], n)

    def test_pairs_as_far_as_one_another_are_in_their_order_as_tuples(self):
        for n, pair in enumerate((i, j) for i in range(60) for j in range(i + 1, 60)):
            self.assertEqual(nth_pair(star([0] * 59), n), pair)
        self.told((0, 59), nth_pair, star([1] * 59), 58)
        self.told((1, 2), nth_pair, star([1] * 59), 59)
        self.told((58, 59), nth_pair, star([1] * 59), 1769)

    def test_all_trees(self):
        for tree in TREES:
            right = right_order(tree, 0, 10 * HUGE, False)
            step = 1 if len(right) < 100 else 97
            for n in range(0, len(right), step):
                self.told(right[n], nth_pair, tree, n)
            for beyond in range(len(right), len(right) + 3):
                self.refused(NoNumber, nth_pair, tree, beyond)
            if right:
                self.told(right[-1], nth_pair, tree, len(right) - 1)

    def test_every_small_tree(self):
        for tree in every_tree(4, (0, 1, 2)):
            self.assertEqual([nth_pair(tree, n) for n in range(10)], right_order(tree, 0, 8, False))


class NumberOfPairTest(FarCase):
    def test_by_hand(self):
        self.told(0, number_of_pair, [(0, 0)], (0, 1))
        for n, pair in enumerate(IN_ORDER):
            self.told(n, number_of_pair, FORK, pair)
        self.told(2, number_of_pair, [(0, HUGE), (1, 1)], (0, 2))
        self.told(0, number_of_pair, star([0] * 59), (0, 1))
        self.told(1769, number_of_pair, star([0] * 59), (58, 59))
        self.told(1769, number_of_pair, chain([1] * 59), (0, 59))
        self.told(58, number_of_pair, chain([1] * 59), (58, 59))

    def test_each_pair_has_just_one_number(self):
        for tree in TREES[:10] + tuple(every_tree(3, (0, 1, 2))):
            many = (len(tree) + 1) * len(tree) // 2
            told = [nth_pair(tree, n) for n in range(many)]
            self.assertEqual(sorted(told), [pair for distance, pair, way in all_pairs(tree)])
            self.assertEqual([number_of_pair(tree, pair) for pair in told], list(range(many)))

    def test_large_trees(self):
        for tree in TREES[10:]:
            right = right_order(tree, 0, ALL, False)
            for n in range(0, 1770, 59):
                self.told(n, number_of_pair, tree, right[n])


class NthFromTest(FarCase):
    def test_by_hand(self):
        for n, pair in enumerate(IN_ORDER):
            self.told(pair, nth_from, FORK, 0, 4, n, False)
        for n, pair in enumerate([(2, 3), (0, 3), (1, 2), (1, 3), (0, 1), (0, 2)]):
            self.told(pair, nth_from, FORK, 0, 4, n, True)
        for n, pair in enumerate([(1, 2), (1, 3), (0, 3)]):
            self.told(pair, nth_from, FORK, 2, 3, n, False)
        for n, pair in enumerate([(0, 3), (1, 2), (1, 3)]):
            self.told(pair, nth_from, FORK, 2, 3, n, True)
        for far in (False, True):
            self.told((0, 1), nth_from, [(0, 0)], 0, 0, 0, far)
            self.told((0, 1), nth_from, FORK, 1, 1, 0, far)
            self.told((0, 2), nth_from, FORK, 1, 1, 1, far)
            self.told((0, 3), nth_from, FORK, 3, 3, 0, far)
            self.told((0, 1), nth_from, star([0] * 59), 0, 0, 0, far)
            self.told((58, 59), nth_from, star([0] * 59), 0, ALL, 1769, far)
        self.told((1, 2), nth_from, star([1] * 59), 0, ALL, 0, True)
        self.told((0, 59), nth_from, star([1] * 59), 0, ALL, 1769, True)
        self.told((0, 2), nth_from, [(0, HUGE), (1, 1)], 0, HUGE + 1, 0, True)

    def test_where_no_pair_has_the_number(self):
        for far in (False, True):
            self.refused(NoNumber, nth_from, [], 0, ALL, 0, far)
            self.refused(NoNumber, nth_from, [(0, 7)], 0, 6, 0, far)
            self.refused(NoNumber, nth_from, [(0, 7)], 8, ALL, 0, far)
            self.refused(NoNumber, nth_from, [(0, 7)], 7, 7, 1, far)
            self.refused(NoNumber, nth_from, FORK, 2, 3, 3, far)
            self.refused(NoNumber, nth_from, FORK, 0, 4, 6, far)
            self.refused(NoNumber, nth_from, FORK, 0, 0, 0, far)
            self.refused(NoNumber, nth_from, FORK, 2, 3, HUGE, far)

    def test_all_trees(self):
        for tree in TREES[:10]:
            for a, b in spans_of(tree):
                for far in (False, True):
                    right = right_order(tree, a, b, far)
                    for n, pair in enumerate(right):
                        self.assertEqual(nth_from(tree, a, b, n, far), pair)
                    self.refused(NoNumber, nth_from, tree, a, b, len(right), far)

    def test_trees_of_sixty(self):
        for tree in TREES[10:]:
            for a, b in ((0, ALL), (3, 3), (2, 40), (0, 0)):
                for far in (False, True):
                    right = right_order(tree, a, b, far)
                    for n in range(0, len(right), 101):
                        self.told(right[n], nth_from, tree, a, b, n, far)
                    if right:
                        self.told(right[-1], nth_from, tree, a, b, len(right) - 1, far)
                    self.refused(NoNumber, nth_from, tree, a, b, len(right), far)


class RefusedTest(FarCase):
    def test_no_tree(self):
        for thing in NO_TREES:
            self.refused(NoTree, nth_pair, thing, 0)
            self.refused(NoTree, number_of_pair, thing, (0, 1))
            self.refused(NoTree, nth_from, thing, 0, 9, 0, False)
            self.refused(NoTree, nth_from, thing, 0, 9, 0, True)

    def test_no_number(self):
        for tree in ([], [(0, 0)], FORK):
            for wrong in NO_WHOLE_NUMBERS + BELOW_ZERO:
                self.refused(NoNumber, nth_pair, tree, wrong)
                for far in (False, True):
                    self.refused(NoNumber, nth_from, tree, wrong, 9, 0, far)
                    self.refused(NoNumber, nth_from, tree, 0, wrong, 0, far)
                    self.refused(NoNumber, nth_from, tree, 0, 9, wrong, far)
                    self.refused(NoNumber, nth_from, tree, 0, wrong, wrong, far)
                    self.refused(NoNumber, nth_from, tree, wrong, wrong, wrong, far)
            for a, b in ((1, 0), (3, 2), (10 ** 17, 3), (HUGE + 1, HUGE)):
                self.refused(NoNumber, nth_from, tree, a, b, 0, False)
                self.refused(NoNumber, nth_from, tree, a, b, 0, True)

    def test_no_pair(self):
        for tree in ([], [(0, 1)], FORK, chain([1] * 59)):
            for wrong in no_pairs(tree):
                self.refused(NoPair, number_of_pair, tree, wrong)
        for beyond in ((0, 1), (0, 4), (3, 4)):
            self.refused(NoPair, number_of_pair, [], beyond)
        self.refused(NoPair, number_of_pair, FORK, (3, 4))
        self.refused(NoPair, number_of_pair, FORK, [0, 1])

    def test_no_tree_goes_first(self):
        for thing in SOME_NO_TREES:
            for wrong in no_pairs(FORK):
                self.refused(NoTree, number_of_pair, thing, wrong)
            for wrong in NO_WHOLE_NUMBERS + BELOW_ZERO + (HUGE,):
                self.refused(NoTree, nth_pair, thing, wrong)
                self.refused(NoTree, nth_from, thing, wrong, 9, 0, False)
                self.refused(NoTree, nth_from, thing, 0, wrong, 0, True)
                self.refused(NoTree, nth_from, thing, 0, 9, wrong, False)
                self.refused(NoTree, nth_from, thing, wrong, wrong, wrong, True)
            self.refused(NoTree, nth_from, thing, 2, 1, 0, False)

    def test_behind_a_refusal_all_is_as_before(self):
        tree = list(FORK)
        self.refused(NoNumber, nth_pair, tree, 6)
        self.refused(NoPair, number_of_pair, tree, (1, 0))
        self.refused(NoNumber, nth_from, tree, 3, 2, 0, True)
        self.refused(NoTree, nth_pair, tree + [(9, 9)], 0)
        self.told((2, 3), nth_pair, tree, 5)
        self.told(5, number_of_pair, tree, (2, 3))

    def test_a_tree_that_its_owner_changes_is_not_kept(self):
        tree = list(MIXED)
        self.told((1, 4), nth_pair, tree, 0)
        tree[3] = (1, 50)
        self.told((5, 6), nth_pair, tree, 0)
        tree.pop()
        self.told(0, number_of_pair, tree, (5, 6))
        self.told((4, 6), nth_from, tree, 0, 99, 0, True)


if __name__ == "__main__":
    unittest.main()
