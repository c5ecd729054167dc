"""[4]: what is told fits together, and is the same however the tree is written; and the interface stands as listed."""

import inspect
import unittest

from pairsfar import around, numbered, pairs, roads, trees, weighed
from pairsfar.around import distances_from, farthest, middles, places_at, sum_middles
from pairsfar.numbered import nth_from, nth_pair, number_of_pair
from pairsfar.pairs import distances_counted, how_many_at, how_many_from, pairs_at
from pairsfar.roads import pairs_over_roads, pairs_past_places, way_in_common
from pairsfar.trees import how_far, is_tree, way_between
from pairsfar.weighed import greatest_weight, weight_from, weights_by_distance
from tests.helper import ALL, TREES, FarCase, every_tree, exact, rewritten


def as_pair(i, j):
    return (min(i, j), max(i, j))


class FitsTogetherTest(FarCase):
    def test_as_many_pairs_as_told_are_as_far_as_told(self):
        for tree in TREES:
            counts = distances_counted(tree)
            told = []
            for distance in counts:
                found = pairs_at(tree, distance)
                self.assertEqual(counts[distance], len(found))
                self.assertEqual({how_far(tree, i, j) for i, j in found}, {distance})
                told.extend(found)
            many = len(tree) + 1
            self.assertEqual(sorted(told), [(i, j) for i in range(many) for j in range(i + 1, many)])

    def test_one_distance_is_a_span_of_one(self):
        for tree in TREES[:9]:
            for distance in list(distances_counted(tree)) + [0, 1, 6]:
                self.assertEqual(how_many_at(tree, distance), how_many_from(tree, distance, distance))
                self.assertEqual(how_many_at(tree, distance), len(pairs_at(tree, distance)))

    def test_a_way_is_its_reverse_from_the_other_end(self):
        for tree in TREES[:9]:
            for i in range(len(tree) + 1):
                for j in range(len(tree) + 1):
                    self.assertEqual(way_between(tree, i, j), way_between(tree, j, i)[::-1])
                    self.assertEqual(how_far(tree, i, j), how_far(tree, j, i))

    def test_a_way_goes_by_roads_that_add_up(self):
        for tree in TREES[:9]:
            for i in range(len(tree) + 1):
                for j in range(len(tree) + 1):
                    way = way_between(tree, i, j)
                    self.assertEqual((way[0], way[-1]), (i, j))
                    self.assertEqual(len(set(way)), len(way))
                    steps = [how_far(tree, one, other) for one, other in zip(way, way[1:])]
                    self.assertEqual(sum(steps), how_far(tree, i, j))

    def test_each_pair_has_just_one_number_and_none_is_farther_than_the_farthest(self):
        for tree in TREES[:9]:
            many = how_many_from(tree, 0, ALL)
            told = [nth_pair(tree, n) for n in range(many)]
            self.assertEqual(len(set(told)), many)
            self.assertEqual([number_of_pair(tree, pair) for pair in told], list(range(many)))
            far = [how_far(tree, i, j) for i, j in told]
            self.assertEqual(far, sorted(far))
            if tree:
                self.assertEqual(farthest(tree), (far[-1], pairs_at(tree, far[-1])[0]))
                self.assertEqual(farthest(tree)[1], nth_from(tree, 0, ALL, 0, True))

    def test_no_place_is_nearer_to_all_than_the_middles(self):
        for tree in TREES:
            for told, measure in ((middles(tree), max), (sum_middles(tree), sum)):
                for place in range(len(tree) + 1):
                    measured = measure(distances_from(tree, place))
                    self.assertGreaterEqual(measured, told[0])
                    self.assertEqual(place in told[1], measured == told[0])

    def test_pairs_from_a_to_b_are_as_many_as_told(self):
        for tree in TREES[:9]:
            for a, b in ((0, ALL), (0, 0), (2, 5), (7, 7)):
                many = how_many_from(tree, a, b)
                nearest = [nth_from(tree, a, b, n, False) for n in range(many)]
                farthest_first = [nth_from(tree, a, b, n, True) for n in range(many)]
                self.assertEqual(sorted(nearest), sorted(farthest_first))
                self.assertEqual(weight_from(tree, [1] * (len(tree) + 1), a, b), many)
                over = sum(len(way_between(tree, i, j)) - 1 for i, j in nearest)
                self.assertEqual(sum(pairs_over_roads(tree, a, b)), over)
                self.assertEqual(sum(pairs_past_places(tree, a, b)), over - many)

    def test_places_at_a_distance_are_in_the_pairs_at_it(self):
        for tree in TREES[:9]:
            for distance in distances_counted(tree):
                ends = [(i, j) for i in range(len(tree) + 1) for j in places_at(tree, i, distance) if i < j]
                self.assertEqual(ends, pairs_at(tree, distance))


class HoweverWrittenTest(FarCase):
    def same_as_rewritten(self, tree, start, last_first):
        other, number = rewritten(tree, start, last_first)
        self.assertTrue(is_tree(other))
        counts = distances_counted(tree)
        self.assertEqual(exact(distances_counted(other)), exact(counts))
        for distance in counts:
            renamed = sorted(as_pair(number[i], number[j]) for i, j in pairs_at(tree, distance))
            self.assertEqual(pairs_at(other, distance), renamed)
        i, j = len(tree), len(tree) // 2
        self.assertEqual(how_far(other, number[i], number[j]), how_far(tree, i, j))
        self.assertEqual(way_between(other, number[i], number[j]), [number[place] for place in way_between(tree, i, j)])
        self.assertEqual(how_many_from(other, 1, 7), how_many_from(tree, 1, 7))
        self.same_around(tree, other, number)
        self.same_weighed(tree, other, number)
        self.same_past_places(tree, other, number)
        self.same_in_common(tree, other, number)

    def same_around(self, tree, other, number):
        for i in (0, len(tree)):
            far = distances_from(other, number[i])
            self.assertEqual([far[number[place]] for place in range(len(far))], distances_from(tree, i))
            moved = sorted(number[place] for place in places_at(tree, i, 1))
            self.assertEqual(places_at(other, number[i], 1), moved)
        for ask in (middles, sum_middles):
            least, places = ask(tree)
            self.assertEqual(ask(other), (least, sorted(number[place] for place in places)))
        if tree:
            self.assertEqual(farthest(other)[0], farthest(tree)[0])

    def same_weighed(self, tree, other, number):
        weights = [place * 7 % 5 - 2 for place in range(len(tree) + 1)]
        moved = [None] * len(weights)
        for place, weight in enumerate(weights):
            moved[number[place]] = weight
        self.assertEqual(exact(weights_by_distance(other, moved)), exact(weights_by_distance(tree, weights)))
        self.assertEqual(weight_from(other, moved, 1, 7), weight_from(tree, weights, 1, 7))
        greatest = greatest_weight(tree, weights, 0, ALL)
        self.assertEqual((greatest_weight(other, moved, 0, ALL) or [None])[0], (greatest or [None])[0])

    def same_past_places(self, tree, other, number):
        past = pairs_past_places(other, 1, 7)
        self.assertEqual([past[number[place]] for place in range(len(past))], pairs_past_places(tree, 1, 7))
        self.assertEqual(sorted(pairs_over_roads(other, 1, 7)), sorted(pairs_over_roads(tree, 1, 7)))

    def same_in_common(self, tree, other, number):
        if len(tree) < 3:
            return
        for one, two in (((0, 3), (1, 2)), ((0, len(tree)), (2, len(tree)))):
            length, met = way_in_common(tree, one, two)
            moved = [as_pair(number[i], number[j]) for i, j in (one, two)]
            self.assertEqual(way_in_common(other, *moved)[0], length)
            self.assertEqual(len(way_in_common(other, *moved)[1]), len(met))

    def test_small_trees_from_every_place(self):
        for tree in list(TREES[:10]) + every_tree(3, (0, 1, 3)):
            for start in range(len(tree) + 1):
                for last_first in (False, True):
                    self.same_as_rewritten(tree, start, last_first)

    def test_large_trees(self):
        for tree in TREES[10:]:
            self.same_as_rewritten(tree, len(tree), True)


class InterfaceTest(FarCase):
    def test_names_and_arguments(self):
        listed = (
            (trees, "is_tree", ["thing"]), (trees, "how_far", ["tree", "i", "j"]),
            (trees, "way_between", ["tree", "i", "j"]), (pairs, "distances_counted", ["tree"]),
            (pairs, "how_many_at", ["tree", "distance"]), (pairs, "how_many_from", ["tree", "a", "b"]),
            (pairs, "pairs_at", ["tree", "distance"]),
            (around, "distances_from", ["tree", "i"]), (around, "places_at", ["tree", "i", "distance"]),
            (around, "farthest", ["tree"]), (around, "middles", ["tree"]), (around, "sum_middles", ["tree"]),
            (weighed, "weights_by_distance", ["tree", "weights"]),
            (weighed, "weight_from", ["tree", "weights", "a", "b"]),
            (weighed, "greatest_weight", ["tree", "weights", "a", "b"]),
            (numbered, "nth_pair", ["tree", "n"]), (numbered, "number_of_pair", ["tree", "pair"]),
            (numbered, "nth_from", ["tree", "a", "b", "n", "far"]),
            (roads, "pairs_over_roads", ["tree", "a", "b"]), (roads, "pairs_past_places", ["tree", "a", "b"]),
            (roads, "way_in_common", ["tree", "one", "other"]),
        )
        for module, name, arguments in listed:
            function = getattr(module, name)
            self.assertEqual(list(inspect.signature(function).parameters), arguments)
            self.assertEqual(function.__module__, module.__name__)


if __name__ == "__main__":
    unittest.main()
