"""[4]: what is told fits together, and is the same however the tree is written; and the interface stands as listed."""

import inspect
import unittest

from pairsfar import around, desk, keeper, numbered, pairs, roads, texts, toldback, trees, weighed
from pairsfar.around import distances_from, farthest, middles, places_at, sum_middles
from pairsfar.desk import Desk
from pairsfar.errors import NoNumber
from pairsfar.keeper import Keeper
from pairsfar.numbered import nth_from, nth_pair, number_of_pair
from pairsfar.pairs import distances_counted, how_many_at, how_many_from, pairs_at
from pairsfar.roads import pairs_over_roads, pairs_past_places, way_in_common
from pairsfar.texts import read_pairs, read_tree, show_pairs, show_tree
from pairsfar.toldback import first_hanging_on_none, may_hang_on, tree_of
from pairsfar.trees import how_far, is_tree, way_between
from pairsfar.weighed import greatest_weight, weight_from, weights_by_distance
from tests.helper import ALL, TREES, FarCase, every_tree, exact, rewritten


def as_pair(i, j):
    return (min(i, j), max(i, j))


class FitsTogetherTest(FarCase):
    def test_as_many_pairs_as_told_are_as_far_as_told(self):
        for tree in TREES:
            counts = distances_counted(tree)
            told = []
            for distance in counts:
                found = pairs_at(tree, distance)
                self.assertEqual(counts[distance], len(found))
                self.assertEqual({how_far(tree, i, j) for i, j in found}, {distance})
                told.extend(found)
            many = len(tree) + 1
            self.assertEqual(sorted(told), [(i, j) for i in range(many) for j in range(i + 1, many)])

    def test_one_distance_is_a_span_of_one(self):
        for tree in TREES[:9]:
            for distance in list(distances_counted(tree)) + [0, 1, 6]:
                self.assertEqual(how_many_at(tree, distance), how_many_from(tree, distance, distance))
                self.assertEqual(how_many_at(tree, distance), len(pairs_at(tree, distance)))

    def test_a_way_is_its_reverse_from_the_other_end(self):
        for tree in TREES[:9]:
            for i in range(len(tree) + 1):
                for j in range(len(tree) + 1):
                    self.assertEqual(way_between(tree, i, j), way_between(tree, j, i)[::-1])
                    self.assertEqual(how_far(tree, i, j), how_far(tree, j, i))

    def test_a_way_goes_by_roads_that_add_up(self):
        for tree in TREES[:9]:
            for i in range(len(tree) + 1):
                for j in range(len(tree) + 1):
                    way = way_between(tree, i, j)
                    self.assertEqual((way[0], way[-1]), (i, j))
                    self.assertEqual(len(set(way)), len(way))
                    steps = [how_far(tree, one, other) for one, other in zip(way, way[1:])]
                    self.assertEqual(sum(steps), how_far(tree, i, j))

    def test_each_pair_has_just_one_number_and_none_is_farther_than_the_farthest(self):
        for tree in TREES[:9]:
            many = how_many_from(tree, 0, ALL)
            told = [nth_pair(tree, n) for n in range(many)]
            self.assertEqual(len(set(told)), many)
            self.assertEqual([number_of_pair(tree, pair) for pair in told], list(range(many)))
            far = [how_far(tree, i, j) for i, j in told]
            self.assertEqual(far, sorted(far))
            if tree:
                self.assertEqual(farthest(tree), (far[-1], pairs_at(tree, far[-1])[0]))
                self.assertEqual(farthest(tree)[1], nth_from(tree, 0, ALL, 0, True))

    def test_no_place_is_nearer_to_all_than_the_middles(self):
        for tree in TREES:
            for told, measure in ((middles(tree), max), (sum_middles(tree), sum)):
                for place in range(len(tree) + 1):
                    measured = measure(distances_from(tree, place))
                    self.assertGreaterEqual(measured, told[0])
                    self.assertEqual(place in told[1], measured == told[0])

    def test_pairs_from_a_to_b_are_as_many_as_told(self):
        for tree in TREES[:9]:
            for a, b in ((0, ALL), (0, 0), (2, 5), (7, 7)):
                many = how_many_from(tree, a, b)
                nearest = [nth_from(tree, a, b, n, False) for n in range(many)]
                farthest_first = [nth_from(tree, a, b, n, True) for n in range(many)]
                self.assertEqual(sorted(nearest), sorted(farthest_first))
                self.assertEqual(weight_from(tree, [1] * (len(tree) + 1), a, b), many)
                over = sum(len(way_between(tree, i, j)) - 1 for i, j in nearest)
                self.assertEqual(sum(pairs_over_roads(tree, a, b)), over)
                self.assertEqual(sum(pairs_past_places(tree, a, b)), over - many)

    def test_places_at_a_distance_are_in_the_pairs_at_it(self):
        for tree in TREES[:9]:
            for distance in distances_counted(tree):
                ends = [(i, j) for i in range(len(tree) + 1) for j in places_at(tree, i, distance) if i < j]
                self.assertEqual(ends, pairs_at(tree, distance))


    def test_a_tree_is_told_back_from_how_far_all_are(self):
        for tree in TREES:
            table = [distances_from(tree, i) for i in range(len(tree) + 1)]
            told = tree_of(table)
            self.assertEqual([distances_from(told, i) for i in range(len(told) + 1)], table)
            self.assertIsNone(first_hanging_on_none(table))
            for p in range(1, len(table)):
                self.assertIn(tree[p - 1][0], may_hang_on(table, p))
                self.assertEqual(told[p - 1][0], may_hang_on(table, p)[0])

    def test_what_is_told_may_be_handed_in(self):
        for tree in [tree for tree in TREES if all(length < 10 ** 15 for up, length in tree)]:
            handed = Keeper(read_tree(show_tree(tree))).tree()
            self.assertEqual(distances_counted(handed), distances_counted(tree))
            for distance in list(distances_counted(tree))[:5]:
                told = read_pairs(show_pairs(pairs_at(handed, distance)))
                self.assertEqual({how_far(tree, i, j) for i, j in told}, {distance})
            table = [distances_from(handed, i) for i in range(len(handed) + 1)]
            self.assertTrue(is_tree(tree_of(table)))


class KeptTest(FarCase):
    """What a Keeper and a Desk tell is what is told of their trees, whatever led to them."""

    def same_as_handed_in(self, kept, tree):
        self.assertTrue(exact(kept.tree()) == exact(tree))
        self.assertEqual(kept.farthest(), farthest(tree))
        for a, b in ((0, ALL), (0, 0), (1, 7), (5, 5)):
            self.assertEqual(kept.how_many_from(a, b), how_many_from(tree, a, b))
        many = how_many_from(tree, 0, 10 ** 7000)
        for n in range(0, many, 1 + many // 7):
            self.assertEqual(kept.nth_pair(n), nth_pair(tree, n))
        self.refused(NoNumber, kept.nth_pair, many)

    def test_leaf_by_leaf(self):
        for tree in TREES:
            kept = Keeper([])
            for at, (up, length) in enumerate(tree):
                kept.leaf(up, length)
                if at < 8:
                    self.same_as_handed_in(kept, tree[:at + 1])
            self.same_as_handed_in(kept, tree)

    def test_length_by_length_and_back(self):
        for tree in TREES:
            kept = Keeper([(up, 3) for up, length in tree])
            for at, (up, length) in enumerate(tree):
                kept.put_length(at + 1, length)
            self.same_as_handed_in(kept, tree)
            for again in tree:
                kept.undo()
            self.same_as_handed_in(kept, [(up, 3) for up, length in tree])

    def test_cut_and_undone(self):
        for tree in TREES:
            kept = Keeper(tree)
            for again in tree:
                kept.cut()
            self.same_as_handed_in(kept, [])
            for again in tree:
                kept.undo()
            self.same_as_handed_in(kept, tree)

    def test_a_desk_tells_the_same_as_a_keeper(self):
        told, kept = Desk(), Keeper([])
        told.say("tree t -")
        for at in range(40):
            up, length = at * 5 % (at + 1), at * 7 % 4
            told.say(f"leaf t {up} {length}")
            kept.leaf(up, length)
            if at % 3 == 2:
                told.say(f"long t {at} {at}")
                kept.put_length(at, at)
            if at % 4 == 3:
                told.say("cut t")
                kept.cut()
                told.say("leaf t 0 1")
                kept.leaf(0, 1)
            distance, pair = kept.farthest()
            self.assertEqual(told.say("show t"), show_tree(kept.tree()))
            self.assertEqual(told.say("greatest t"), f"{distance} {show_pairs([pair])}")
            self.assertEqual(told.say("many t 1 9"), str(kept.how_many_from(1, 9)))
            self.assertEqual(told.say(f"nth t {at}"), show_pairs([kept.nth_pair(at)]))


class HoweverWrittenTest(FarCase):
    def same_as_rewritten(self, tree, start, last_first):
        other, number = rewritten(tree, start, last_first)
        self.assertTrue(is_tree(other))
        counts = distances_counted(tree)
        self.assertEqual(exact(distances_counted(other)), exact(counts))
        for distance in counts:
            renamed = sorted(as_pair(number[i], number[j]) for i, j in pairs_at(tree, distance))
            self.assertEqual(pairs_at(other, distance), renamed)
        i, j = len(tree), len(tree) // 2
        self.assertEqual(how_far(other, number[i], number[j]), how_far(tree, i, j))
        self.assertEqual(way_between(other, number[i], number[j]), [number[place] for place in way_between(tree, i, j)])
        self.assertEqual(how_many_from(other, 1, 7), how_many_from(tree, 1, 7))
        self.same_around(tree, other, number)
        self.same_weighed(tree, other, number)
        self.same_past_places(tree, other, number)
        self.same_in_common(tree, other, number)

    def same_around(self, tree, other, number):
        for i in (0, len(tree)):
            far = distances_from(other, number[i])
            self.assertEqual([far[number[place]] for place in range(len(far))], distances_from(tree, i))
            moved = sorted(number[place] for place in places_at(tree, i, 1))
            self.assertEqual(places_at(other, number[i], 1), moved)
        for ask in (middles, sum_middles):
            least, places = ask(tree)
            self.assertEqual(ask(other), (least, sorted(number[place] for place in places)))
        if tree:
            self.assertEqual(farthest(other)[0], farthest(tree)[0])

    def same_weighed(self, tree, other, number):
        weights = [place * 7 % 5 - 2 for place in range(len(tree) + 1)]
        moved = [None] * len(weights)
        for place, weight in enumerate(weights):
            moved[number[place]] = weight
        self.assertEqual(exact(weights_by_distance(other, moved)), exact(weights_by_distance(tree, weights)))
        self.assertEqual(weight_from(other, moved, 1, 7), weight_from(tree, weights, 1, 7))
        greatest = greatest_weight(tree, weights, 0, ALL)
        self.assertEqual((greatest_weight(other, moved, 0, ALL) or [None])[0], (greatest or [None])[0])

    def same_past_places(self, tree, other, number):
        past = pairs_past_places(other, 1, 7)
        self.assertEqual([past[number[place]] for place in range(len(past))], pairs_past_places(tree, 1, 7))
        self.assertEqual(sorted(pairs_over_roads(other, 1, 7)), sorted(pairs_over_roads(tree, 1, 7)))

    def same_in_common(self, tree, other, number):
        if len(tree) < 3:
            return
        for one, two in (((0, 3), (1, 2)), ((0, len(tree)), (2, len(tree)))):
            length, met = way_in_common(tree, one, two)
            moved = [as_pair(number[i], number[j]) for i, j in (one, two)]
            self.assertEqual(way_in_common(other, *moved)[0], length)
            self.assertEqual(len(way_in_common(other, *moved)[1]), len(met))

    def test_trees_of_the_same_distances_are_told_back_alike(self):
        for tree in every_tree(4, (0, 2)):
            table = [distances_from(tree, i) for i in range(5)]
            first = tree_of(table)
            again = [distances_from(first, i) for i in range(5)]
            self.assertTrue(exact(tree_of(again)) == exact(first))
            self.assertEqual(distances_counted(first), distances_counted(tree))
            self.assertEqual([nth_pair(first, n) for n in range(10)], [nth_pair(tree, n) for n in range(10)])
            self.assertEqual((farthest(first), middles(first)), (farthest(tree), middles(tree)))

    def test_small_trees_from_every_place(self):
        for tree in list(TREES[:10]) + every_tree(3, (0, 1, 3)):
            for start in range(len(tree) + 1):
                for last_first in (False, True):
                    self.same_as_rewritten(tree, start, last_first)

    def test_large_trees(self):
        for tree in TREES[10:]:
            self.same_as_rewritten(tree, len(tree), True)


class InterfaceTest(FarCase):
    def test_names_and_arguments(self):
        listed = (
            (trees, "is_tree", ["thing"]), (trees, "how_far", ["tree", "i", "j"]),
            (trees, "way_between", ["tree", "i", "j"]), (pairs, "distances_counted", ["tree"]),
            (pairs, "how_many_at", ["tree", "distance"]), (pairs, "how_many_from", ["tree", "a", "b"]),
            (pairs, "pairs_at", ["tree", "distance"]),
            (around, "distances_from", ["tree", "i"]), (around, "places_at", ["tree", "i", "distance"]),
            (around, "farthest", ["tree"]), (around, "middles", ["tree"]), (around, "sum_middles", ["tree"]),
            (weighed, "weights_by_distance", ["tree", "weights"]),
            (weighed, "weight_from", ["tree", "weights", "a", "b"]),
            (weighed, "greatest_weight", ["tree", "weights", "a", "b"]),
            (numbered, "nth_pair", ["tree", "n"]), (numbered, "number_of_pair", ["tree", "pair"]),
            (numbered, "nth_from", ["tree", "a", "b", "n", "far"]),
            (roads, "pairs_over_roads", ["tree", "a", "b"]), (roads, "pairs_past_places", ["tree", "a", "b"]),
            (roads, "way_in_common", ["tree", "one", "other"]),
            (toldback, "tree_of", ["table"]), (toldback, "may_hang_on", ["table", "p"]),
            (toldback, "first_hanging_on_none", ["table"]),
            (texts, "show_tree", ["tree"]), (texts, "read_tree", ["text"]), (texts, "show_pairs", ["pairs"]),
            (texts, "read_pairs", ["text"]),
        )
        for module, name, arguments in listed:
            function = getattr(module, name)
            self.assertEqual(list(inspect.signature(function).parameters), arguments)
            self.assertEqual(function.__module__, module.__name__)

    def test_classes_and_their_methods(self):
        listed = (
            (keeper, "Keeper", ["tree"], {
                "leaf": ["up", "length"], "cut": [], "put_length": ["p", "length"], "undo": [], "tree": [],
                "how_many_from": ["a", "b"], "farthest": [], "nth_pair": ["n"],
            }),
            (desk, "Desk", [], {"say": ["row"], "names": []}),
        )
        for module, name, arguments, methods in listed:
            kind = getattr(module, name)
            self.assertEqual(kind.__module__, module.__name__)
            self.assertEqual(list(inspect.signature(kind).parameters), arguments)
            for method in methods:
                # vars, not getattr: a method from a base class would not do.
                parameters = list(inspect.signature(vars(kind)[method]).parameters)
                self.assertEqual(parameters, ["self"] + methods[method])


if __name__ == "__main__":
    unittest.main()
