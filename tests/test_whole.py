"""[4]: what is told fits together, and is the same however the tree is written; and the interface stands as listed."""

import inspect
import unittest

from pairsfar import pairs, trees
from pairsfar.pairs import distances_counted, how_many_at, how_many_from, pairs_at
from pairsfar.trees import how_far, is_tree, way_between
from tests.helper import TREES, FarCase, every_tree, exact, rewritten


class FitsTogetherTest(FarCase):
    def test_as_many_pairs_as_told_are_as_far_as_told(self):
        for tree in TREES:
            counts = distances_counted(tree)
            told = []
            for distance in counts:
                found = pairs_at(tree, distance)
                self.assertEqual(counts[distance], len(found))
                self.assertEqual({how_far(tree, i, j) for i, j in found}, {distance})
                told.extend(found)
            many = len(tree) + 1
            self.assertEqual(sorted(told), [(i, j) for i in range(many) for j in range(i + 1, many)])

    def test_one_distance_is_a_span_of_one(self):
        for tree in TREES[:9]:
            for distance in list(distances_counted(tree)) + [0, 1, 6]:
                self.assertEqual(how_many_at(tree, distance), how_many_from(tree, distance, distance))
                self.assertEqual(how_many_at(tree, distance), len(pairs_at(tree, distance)))

    def test_a_way_is_its_reverse_from_the_other_end(self):
        for tree in TREES[:9]:
            for i in range(len(tree) + 1):
                for j in range(len(tree) + 1):
                    self.assertEqual(way_between(tree, i, j), way_between(tree, j, i)[::-1])
                    self.assertEqual(how_far(tree, i, j), how_far(tree, j, i))

    def test_a_way_goes_by_roads_that_add_up(self):
        for tree in TREES[:9]:
            for i in range(len(tree) + 1):
                for j in range(len(tree) + 1):
                    way = way_between(tree, i, j)
                    self.assertEqual((way[0], way[-1]), (i, j))
                    self.assertEqual(len(set(way)), len(way))
                    steps = [how_far(tree, one, other) for one, other in zip(way, way[1:])]
                    self.assertEqual(sum(steps), how_far(tree, i, j))


class HoweverWrittenTest(FarCase):
    def same_as_rewritten(self, tree, start, last_first):
        other, number = rewritten(tree, start, last_first)
        self.assertTrue(is_tree(other))
        counts = distances_counted(tree)
        self.assertEqual(exact(distances_counted(other)), exact(counts))
        for distance in counts:
            renamed = sorted(tuple(sorted((number[i], number[j]))) for i, j in pairs_at(tree, distance))
            self.assertEqual(pairs_at(other, distance), renamed)
        i, j = len(tree), len(tree) // 2
        self.assertEqual(how_far(other, number[i], number[j]), how_far(tree, i, j))
        self.assertEqual(way_between(other, number[i], number[j]), [number[place] for place in way_between(tree, i, j)])
        self.assertEqual(how_many_from(other, 1, 7), how_many_from(tree, 1, 7))

    def test_small_trees_from_every_place(self):
        for tree in list(TREES[:10]) + every_tree(3, (0, 1, 3)):
            for start in range(len(tree) + 1):
                for last_first in (False, True):
                    self.same_as_rewritten(tree, start, last_first)

    def test_large_trees(self):
        for tree in TREES[10:]:
            self.same_as_rewritten(tree, len(tree), True)


class InterfaceTest(FarCase):
    def test_names_and_arguments(self):
        listed = (
            (trees, "is_tree", ["thing"]), (trees, "how_far", ["tree", "i", "j"]),
            (trees, "way_between", ["tree", "i", "j"]), (pairs, "distances_counted", ["tree"]),
            (pairs, "how_many_at", ["tree", "distance"]), (pairs, "how_many_from", ["tree", "a", "b"]),
            (pairs, "pairs_at", ["tree", "distance"]),
        )
        for module, name, arguments in listed:
            function = getattr(module, name)
            self.assertEqual(list(inspect.signature(function).parameters), arguments)
            self.assertEqual(function.__module__, module.__name__)


if __name__ == "__main__":
    unittest.main()
