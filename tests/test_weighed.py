"""[2], [3], [10]: the sums of the pairs' weights by distance and from a to b, and the greatest weight."""

import unittest

from pairsfar.errors import NoNumber, NoTree, NoWeights
from pairsfar.pairs import distances_counted
from pairsfar.weighed import greatest_weight, weight_from, weights_by_distance
from tests.helper import (ALL, BELOW_ZERO, FORK, HUGE, MIXED, NO_TREES, NO_WHOLE_NUMBERS, SOME_NO_TREES, TREES, FarCase,
                          all_pairs, chain, every_tree, spans_of, star)


def kinds_of_weights(many):
    """Lists of weights for so many places."""
    return (
        [1] * many, [0] * many, [-1] * many, [place % 5 - 2 for place in range(many)],
        [10 ** 15 - 1 - place for place in range(many)], [(-1) ** place * (10 ** 14 + place) for place in range(many)],
        [HUGE if place % 3 == 0 else -place for place in range(many)],
    )


def right_sums(tree, weights):
    """The sums by distance, by looking at all pairs."""
    sums = {}
    for distance, (i, j), way in all_pairs(tree):
        sums[distance] = sums.get(distance, 0) + weights[i] * weights[j]
    return sums


def right_greatest(tree, weights, a, b):
    """The greatest weight with the first pair that has it, by looking at all pairs."""
    found = [(-weights[i] * weights[j], (i, j)) for distance, (i, j), way in all_pairs(tree) if a <= distance <= b]
    return (-min(found)[0], min(found)[1]) if found else None


def wrong_weights(tree):
    """Things that are no weights of the tree."""
    many = len(tree) + 1
    right = [1] * many
    wrong = [
        True, False, None, 0, 1, -1, "", "1" * many, b"1" * many, (), tuple(right), {}, dict.fromkeys(range(many), 1),
        {1}, range(many), object(), list, [right], right + [1], right + [None], right[1:], right * 2 + [1], [1] * 121,
    ]
    for bad in NO_WHOLE_NUMBERS:
        wrong.append([bad] + right[1:])
        wrong.append(right[:-1] + [bad])
    return wrong


class WeightsByDistanceTest(FarCase):
    def test_by_hand(self):
        self.told({}, weights_by_distance, [], [5])
        self.told({0: 6}, weights_by_distance, [(0, 0)], [2, 3])
        self.told({7: -6}, weights_by_distance, [(0, 7)], [-2, 3])
        self.told({7: 0}, weights_by_distance, [(0, 7)], [0, 3])
        self.told({1: 2 * 3 + 2 * 5, 2: 3 * 5 + 3 * 7, 3: 2 * 7, 4: 5 * 7}, weights_by_distance, FORK, [2, 3, 5, 7])
        self.told({1: 2, 2: 2, 3: 1, 4: 1}, weights_by_distance, FORK, [1] * 4)
        self.told({1: 2, 2: 2, 3: 1, 4: 1}, weights_by_distance, FORK, [-1] * 4)
        self.told({1: 10 ** 28}, weights_by_distance, [(0, 1)], [10 ** 14, 10 ** 14])
        self.told({1: HUGE * HUGE}, weights_by_distance, [(0, 1)], [-HUGE, -HUGE])
        self.told({1: 59, 2: 1711}, weights_by_distance, star([1] * 59), [1] * 60)

    def test_a_sum_of_0_is_told_too(self):
        self.told({1: 0, 2: 0, 3: 0, 4: 0}, weights_by_distance, FORK, [0] * 4)
        self.told({1: 0, 2: -9}, weights_by_distance, [(0, 1), (0, 1)], [4, 3, -3])

    def test_all_trees(self):
        for tree in TREES:
            for weights in kinds_of_weights(len(tree) + 1):
                self.told(right_sums(tree, weights), weights_by_distance, tree, weights)

    def test_every_small_tree(self):
        for tree in every_tree(3, (0, 1, 2)):
            for weights in kinds_of_weights(4):
                self.assertEqual(weights_by_distance(tree, weights), right_sums(tree, weights))

    def test_weights_of_1_count_pairs(self):
        for tree in TREES:
            self.told(distances_counted(tree), weights_by_distance, tree, [1] * (len(tree) + 1))

    def test_a_told_dict_is_the_askers_own(self):
        for tree in ([], [(0, 0)], FORK, MIXED):
            for weights in kinds_of_weights(len(tree) + 1):
                self.askers_own(weights_by_distance, tree, weights)


class WeightFromTest(FarCase):
    def test_by_hand(self):
        self.told(0, weight_from, [], [5], 0, ALL)
        self.told(6, weight_from, [(0, 0)], [2, 3], 0, 0)
        self.told(0, weight_from, [(0, 7)], [2, 3], 0, 6)
        self.told(0, weight_from, [(0, 7)], [2, 3], 8, ALL)
        self.told(6, weight_from, [(0, 7)], [2, 3], 7, 7)
        self.told(6, weight_from, [(0, 7)], [2, 3], 0, 7)
        self.told(6, weight_from, [(0, 7)], [2, 3], 7, 8)
        self.told(36 + 14, weight_from, FORK, [2, 3, 5, 7], 2, 3)
        self.told(16 + 36 + 14 + 35, weight_from, FORK, [2, 3, 5, 7], 0, ALL)
        self.told(-10, weight_from, FORK, [2, -5, 0, 7], 1, 1)
        self.told(1770 * 10 ** 28, weight_from, star([1] * 59), [10 ** 14] * 60, 1, 2)
        self.told(HUGE, weight_from, [(0, HUGE), (1, 1)], [1, HUGE, 1], HUGE, HUGE)

    def test_all_trees(self):
        for tree in TREES[:10]:
            for weights in kinds_of_weights(len(tree) + 1):
                sums = right_sums(tree, weights)
                for a, b in spans_of(tree):
                    right = sum(sums[distance] for distance in sums if a <= distance <= b)
                    self.told(right, weight_from, tree, weights, a, b)


class GreatestWeightTest(FarCase):
    def test_by_hand(self):
        self.told(None, greatest_weight, [], [5], 0, ALL)
        self.told((6, (0, 1)), greatest_weight, [(0, 0)], [2, 3], 0, 0)
        self.told(None, greatest_weight, [(0, 7)], [2, 3], 0, 6)
        self.told(None, greatest_weight, [(0, 7)], [2, 3], 8, ALL)
        self.told((6, (0, 1)), greatest_weight, [(0, 7)], [2, 3], 7, 7)
        self.told((35, (2, 3)), greatest_weight, FORK, [2, 3, 5, 7], 0, ALL)
        self.told((21, (1, 3)), greatest_weight, FORK, [2, 3, 5, 7], 1, 3)
        self.told((10, (0, 2)), greatest_weight, FORK, [2, 3, 5, 7], 1, 1)
        self.told((10 ** 30, (1, 2)), greatest_weight, FORK, [1, -10 ** 15, -10 ** 15, 1], 0, 9)
        self.told((HUGE * HUGE, (0, 2)), greatest_weight, FORK, [HUGE, 1, HUGE, 0], 0, 9)

    def test_below_0_and_0(self):
        self.told((-6, (0, 1)), greatest_weight, [(0, 7)], [-2, 3], 0, 9)
        self.told((0, (0, 1)), greatest_weight, [(0, 7)], [0, -3], 0, 9)
        self.told((-2, (0, 2)), greatest_weight, FORK, [1, -3, -2, -4], 1, 1)
        self.told((0, (0, 1)), greatest_weight, FORK, [0, 0, 0, 0], 0, 9)

    def test_the_first_pair_as_tuples_are_however_far(self):
        # (0, 2) and (1, 2) weigh the same; the second one is nearer.
        self.told((6, (0, 2)), greatest_weight, chain([1, 1]), [2, 2, 3], 0, 9)
        # (0, 2), (0, 3), (1, 2) and (1, 3) weigh the same; (0, 3) is farther than the last two.
        self.told((4, (0, 2)), greatest_weight, FORK, [1, 1, 4, 4], 0, 3)
        self.told((4, (0, 3)), greatest_weight, FORK, [1, 1, 4, 4], 2, 3)
        self.told((1, (0, 1)), greatest_weight, star([5, 4, 3, 2]), [1] * 5, 0, ALL)
        self.told((1, (0, 3)), greatest_weight, star([5, 4, 3, 2]), [1] * 5, 0, 3)
        self.told((1, (1, 2)), greatest_weight, star([1] * 59), [1] * 60, 2, 2)

    def test_all_trees(self):
        for tree in TREES[:10]:
            for weights in kinds_of_weights(len(tree) + 1):
                for a, b in spans_of(tree):
                    self.told(right_greatest(tree, weights, a, b), greatest_weight, tree, weights, a, b)

    def test_trees_of_sixty(self):
        for tree in TREES[10:]:
            for weights in kinds_of_weights(60):
                for a, b in ((0, ALL), (3, 3), (2, 40)):
                    self.assertEqual(greatest_weight(tree, weights, a, b), right_greatest(tree, weights, a, b))


class RefusedTest(FarCase):
    def all_refused(self, kind, tree, weights, a, b):
        self.refused(kind, weight_from, tree, weights, a, b)
        self.refused(kind, greatest_weight, tree, weights, a, b)

    def test_no_tree(self):
        for thing in NO_TREES:
            many = len(thing) + 1 if isinstance(thing, list) else 1
            for weights in ([1], [1] * many):
                self.refused(NoTree, weights_by_distance, thing, weights)
                self.all_refused(NoTree, thing, weights, 0, 1)

    def test_no_weights(self):
        for tree in ([], [(0, 1)], FORK, star([1] * 59)):
            for wrong in wrong_weights(tree):
                self.refused(NoWeights, weights_by_distance, tree, wrong)
                self.all_refused(NoWeights, tree, wrong, 0, 9)

    def test_no_number(self):
        for tree in ([], [(0, 0)], FORK):
            weights = [1] * (len(tree) + 1)
            for wrong in NO_WHOLE_NUMBERS + BELOW_ZERO:
                self.all_refused(NoNumber, tree, weights, wrong, 3)
                self.all_refused(NoNumber, tree, weights, 0, wrong)
                self.all_refused(NoNumber, tree, weights, wrong, wrong)
            for a, b in ((1, 0), (8, 7), (10 ** 17, 3), (HUGE + 1, HUGE)):
                self.all_refused(NoNumber, tree, weights, a, b)

    def test_no_tree_then_no_weights_then_no_number(self):
        for thing in SOME_NO_TREES:
            for wrong in wrong_weights(FORK):
                self.refused(NoTree, weights_by_distance, thing, wrong)
                self.all_refused(NoTree, thing, wrong, 0, 1)
                self.all_refused(NoTree, thing, wrong, 1, 0)
            for wrong in NO_WHOLE_NUMBERS + BELOW_ZERO:
                self.all_refused(NoTree, thing, [1], wrong, 3)
                self.all_refused(NoTree, thing, [1, 1], 0, wrong)
                self.all_refused(NoTree, thing, None, wrong, wrong)
        for wrong in wrong_weights(FORK):
            for a, b in ((1, 0), (True, 3), (0, None), (-1, 3), (0, -1), ("0", [1])):
                self.all_refused(NoWeights, FORK, wrong, a, b)

    def test_behind_a_refusal_all_is_as_before(self):
        tree = list(FORK)
        weights = [2, 3, 5, 7]
        self.refused(NoWeights, weights_by_distance, tree, weights + [1])
        self.refused(NoNumber, weight_from, tree, weights, 2, 1)
        self.refused(NoTree, greatest_weight, tree + [(9, 9)], weights, 0, 1)
        self.told(10, weight_from, [(0, 1)], [2, 5], 0, 1)
        self.told(16, weight_from, tree, weights, 1, 1)

    def test_weights_that_their_owner_changes_are_not_kept(self):
        weights = [1, 1, 1, 1]
        self.told({1: 2, 2: 2, 3: 1, 4: 1}, weights_by_distance, FORK, weights)
        weights[3] = 10
        self.told({1: 2, 2: 11, 3: 10, 4: 10}, weights_by_distance, FORK, weights)
        self.told(33, weight_from, FORK, weights, 0, 9)
        self.told((10, (0, 3)), greatest_weight, FORK, weights, 0, 9)


if __name__ == "__main__":
    unittest.main()
