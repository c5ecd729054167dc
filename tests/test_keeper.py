"""[2], [3], [4], [17]: a tree that changes, what is undone, and what is told of it meanwhile."""

import unittest

from pairsfar.around import farthest
from pairsfar.errors import NoNumber, NoPlace, NoTree, TooMany
from pairsfar.keeper import Keeper
from pairsfar.numbered import nth_pair
from pairsfar.pairs import how_many_from
from tests.helper import (ALL, BELOW_ZERO, FORK, HUGE, MIXED, NO_TREES, NO_WHOLE_NUMBERS, TREES, FarCase, all_pairs,
                          chain, exact, some_numbers, spoil, star)

NO_LENGTHS = NO_WHOLE_NUMBERS + BELOW_ZERO
SIXTY = star([1] * 59)


class KeeperCase(FarCase):
    def keeps(self, keeper, tree):
        """The keeper has this tree, and tells of it what is told of the tree, as looking at all pairs tells it, too."""
        self.told(tree, keeper.tree)
        order = [pair for distance, pair, way in sorted(all_pairs(tree))]
        for a, b in ((0, ALL), (0, 0), (1, 4), (3, 3), (10 ** 13, 10 ** 15)):
            many = sum(a <= distance <= b for distance, pair, way in all_pairs(tree))
            self.told(many, keeper.how_many_from, a, b)
            self.assertEqual(many, how_many_from(tree, a, b))
        self.told(farthest(tree), keeper.farthest)
        for n in {0, 1, len(order) // 2, len(order) - 1}:
            if 0 <= n < len(order):
                self.told(order[n], keeper.nth_pair, n)
                self.assertEqual(order[n], nth_pair(tree, n))
        self.refused(NoNumber, keeper.nth_pair, len(order))

    def undone_to(self, keeper, trees):
        """One undo after the other leads through these trees, behind the last nothing is left."""
        for tree in trees:
            self.assertIsNone(keeper.undo())
            self.told(tree, keeper.tree)
        for again in range(2):
            self.refused(NoNumber, keeper.undo)
            self.told(trees[-1] if trees else keeper.tree(), keeper.tree)


class TellsTest(KeeperCase):
    def test_by_hand(self):
        keeper = Keeper(FORK)
        self.told([(0, 1), (0, 1), (1, 2)], keeper.tree)
        self.told(4, keeper.how_many_from, 1, 2)
        self.told((4, (2, 3)), keeper.farthest)
        self.told((1, 3), keeper.nth_pair, 3)

    def test_one_place(self):
        keeper = Keeper([])
        self.told([], keeper.tree)
        self.told(0, keeper.how_many_from, 0, ALL)
        self.told(None, keeper.farthest)
        self.refused(NoNumber, keeper.nth_pair, 0)
        self.keeps(keeper, [])

    def test_all_trees(self):
        for tree in TREES:
            self.keeps(Keeper(tree), tree)

    def test_lengths_of_many_figures(self):
        keeper = Keeper([(0, HUGE)])
        keeper.leaf(1, HUGE + 1)
        keeper.put_length(1, 10 * HUGE)
        self.told((11 * HUGE + 1, (0, 2)), keeper.farthest)
        self.told([(0, 10 * HUGE), (1, HUGE + 1)], keeper.tree)
        keeper.undo()
        self.told((2 * HUGE + 1, (0, 2)), keeper.farthest)


class ChangesTest(KeeperCase):
    def test_leaves_come(self):
        keeper = Keeper([])
        self.assertIsNone(keeper.leaf(0, 5))
        self.keeps(keeper, [(0, 5)])
        self.assertIsNone(keeper.leaf(0, 0))
        self.keeps(keeper, [(0, 5), (0, 0)])
        self.assertIsNone(keeper.leaf(2, 3))
        self.keeps(keeper, [(0, 5), (0, 0), (2, 3)])
        self.assertIsNone(keeper.leaf(1, 10 ** 15 - 1))
        self.keeps(keeper, [(0, 5), (0, 0), (2, 3), (1, 10 ** 15 - 1)])

    def test_the_last_place_goes(self):
        keeper = Keeper(MIXED)
        for many in range(len(MIXED) - 1, -1, -1):
            self.assertIsNone(keeper.cut())
            self.keeps(keeper, MIXED[:many])
        self.refused(NoPlace, keeper.cut)
        self.keeps(keeper, [])

    def test_other_lengths(self):
        keeper = Keeper(FORK)
        self.assertIsNone(keeper.put_length(1, 9))
        self.keeps(keeper, [(0, 9), (0, 1), (1, 2)])
        self.assertIsNone(keeper.put_length(3, 0))
        self.keeps(keeper, [(0, 9), (0, 1), (1, 0)])
        self.assertIsNone(keeper.put_length(2, 10 ** 14))
        self.keeps(keeper, [(0, 9), (0, 10 ** 14), (1, 0)])
        self.assertIsNone(keeper.put_length(2, 1))
        self.keeps(keeper, [(0, 9), (0, 1), (1, 0)])

    def test_each_place_gets_its_length(self):
        for p in range(1, len(MIXED) + 1):
            keeper = Keeper(MIXED)
            keeper.put_length(p, 77)
            self.keeps(keeper, MIXED[:p - 1] + [(MIXED[p - 1][0], 77)] + MIXED[p:])

    def test_sixty_places(self):
        keeper = Keeper([])
        for at in range(59):
            keeper.leaf(at // 2, at % 7)
        full = [(at // 2, at % 7) for at in range(59)]
        self.keeps(keeper, full)
        for up in (0, 58, 59):
            self.refused(TooMany, keeper.leaf, up, 1)
        self.keeps(keeper, full)
        keeper.put_length(59, 50)
        keeper.cut()
        self.keeps(keeper, full[:-1])
        keeper.leaf(58, 8)
        self.keeps(keeper, full[:-1] + [(58, 8)])
        self.refused(TooMany, keeper.leaf, 0, 0)
        self.undone_to(keeper, [full[:-1], full[:-1] + [(29, 50)]] + [full[:many] for many in range(59, -1, -1)])


class UndoTest(KeeperCase):
    def test_nothing_is_left_of_a_new_one(self):
        for tree in TREES:
            keeper = Keeper(tree)
            self.refused(NoNumber, keeper.undo)
            self.told(tree, keeper.tree)

    def test_one_of_each(self):
        keeper = Keeper(FORK)
        keeper.leaf(3, 4)
        keeper.put_length(2, 6)
        keeper.cut()
        keeper.cut()
        self.keeps(keeper, [(0, 1), (0, 6)])
        self.undone_to(keeper, [[(0, 1), (0, 6), (1, 2)], [(0, 1), (0, 6), (1, 2), (3, 4)], FORK + [(3, 4)], FORK])
        self.keeps(keeper, FORK)

    def test_the_same_length_is_undone_by_itself(self):
        keeper = Keeper(FORK)
        keeper.leaf(0, 8)
        keeper.put_length(4, 8)
        keeper.put_length(1, 1)
        self.told(FORK + [(0, 8)], keeper.tree)
        self.undone_to(keeper, [FORK + [(0, 8)], FORK + [(0, 8)], FORK])

    def test_done_behind_an_undo(self):
        keeper = Keeper([])
        keeper.leaf(0, 1)
        keeper.leaf(1, 2)
        keeper.undo()
        keeper.leaf(0, 3)
        keeper.put_length(1, 9)
        keeper.undo()
        keeper.cut()
        self.keeps(keeper, [(0, 1)])
        self.undone_to(keeper, [[(0, 1), (0, 3)], [(0, 1)], []])
        keeper.leaf(0, 4)
        self.keeps(keeper, [(0, 4)])
        self.undone_to(keeper, [[]])

    def test_a_cut_place_comes_back_as_it_was(self):
        keeper = Keeper(MIXED)
        keeper.put_length(7, 44)
        for many in range(7):
            keeper.cut()
        for many in range(7):
            keeper.undo()
        self.keeps(keeper, MIXED[:6] + [(3, 44)])
        keeper.undo()
        self.keeps(keeper, MIXED)


class LongTest(KeeperCase):
    """Changes and undos in turn, against a plain list of trees."""

    def step(self, keeper, trees, numbers):
        present = trees[-1]
        what, number, length = next(numbers) % 10, next(numbers), next(numbers) % 6
        if what < 4 and len(present) < 59:
            up = number % (len(present) + 1)
            keeper.leaf(up, length)
            trees.append(present + [(up, length)])
        elif what < 6 and present:
            keeper.cut()
            trees.append(present[:-1])
        elif what < 8 and present:
            at = number % len(present)
            keeper.put_length(at + 1, length)
            trees.append([(up, length if here == at else old) for here, (up, old) in enumerate(present)])
        elif len(trees) > 1:
            keeper.undo()
            trees.pop()

    def test_asked_between(self):
        for start in range(6):
            numbers = some_numbers(start)
            keeper = Keeper(TREES[start])
            trees = [list(TREES[start])]
            for turn in range(60):
                self.step(keeper, trees, numbers)
                self.keeps(keeper, trees[-1])

    def test_asked_only_at_the_end(self):
        for start in range(20, 40):
            numbers = some_numbers(start)
            keeper = Keeper(FORK)
            trees = [list(FORK)]
            for turn in range(300):
                self.step(keeper, trees, numbers)
            self.keeps(keeper, trees[-1])
            self.undone_to(keeper, trees[-2::-1])

    def test_two_keepers_side_by_side(self):
        one, other = Keeper(MIXED), Keeper(MIXED)
        of_one, of_other = [list(MIXED)], [list(MIXED)]
        numbers = some_numbers(99)
        for turn in range(100):
            self.step(one, of_one, numbers)
            self.step(other, of_other, numbers)
            self.assertEqual(one.tree(), of_one[-1])
            self.assertEqual(other.tree(), of_other[-1])
        self.undone_to(one, of_one[-2::-1])
        self.told(of_other[-1], other.tree)
        self.undone_to(other, of_other[-2::-1])


class RefusedTest(KeeperCase):
    def test_no_tree(self):
        for thing in NO_TREES:
            self.refused(NoTree, Keeper, thing)

    def test_no_leaf(self):
        for tree in ([], FORK, star([1] * 58), SIXTY):
            keeper = Keeper(tree)
            many = len(tree) + 1
            for up in NO_WHOLE_NUMBERS + BELOW_ZERO + (many, many + 1, 60, 61, 10 ** 15 - 1, HUGE):
                self.refused(NoTree, keeper.leaf, up, 1)
            for length in NO_LENGTHS:
                self.refused(NoTree, keeper.leaf, 0, length)
                self.refused(NoTree, keeper.leaf, len(tree), length)
                self.refused(NoTree, keeper.leaf, length, length)
                self.refused(NoTree, keeper.leaf, many, length)
            self.told(tree, keeper.tree)
            self.refused(NoNumber, keeper.undo)

    def test_too_many_goes_behind_no_tree(self):
        keeper = Keeper(SIXTY)
        for up in (0, 1, 59):
            for length in (0, 1, 10 ** 15 - 1, HUGE):
                self.refused(TooMany, keeper.leaf, up, length)
            for length in NO_LENGTHS:
                self.refused(NoTree, keeper.leaf, up, length)
        self.refused(NoTree, keeper.leaf, 60, 1)
        self.refused(NoTree, keeper.leaf, -1, 1)
        self.refused(NoTree, keeper.leaf, True, 1)
        self.told(SIXTY, keeper.tree)
        self.refused(NoNumber, keeper.undo)

    def test_no_place_goes(self):
        keeper = Keeper([])
        self.refused(NoPlace, keeper.cut)
        keeper.leaf(0, 3)
        keeper.cut()
        self.refused(NoPlace, keeper.cut)
        self.undone_to(keeper, [[(0, 3)], []])

    def test_no_place_for_a_length(self):
        for tree in ([], FORK, SIXTY):
            keeper = Keeper(tree)
            many = len(tree) + 1
            for p in NO_WHOLE_NUMBERS + BELOW_ZERO + (0, many, many + 1, 61, 10 ** 15 - 1, HUGE):
                self.refused(NoPlace, keeper.put_length, p, 1)
                for length in (-1, True, None, "1", [], -HUGE):
                    self.refused(NoPlace, keeper.put_length, p, length)
            self.told(tree, keeper.tree)
            self.refused(NoNumber, keeper.undo)

    def test_no_length(self):
        for tree in ([(0, 0)], FORK, SIXTY):
            keeper = Keeper(tree)
            for length in NO_LENGTHS:
                self.refused(NoNumber, keeper.put_length, 1, length)
                self.refused(NoNumber, keeper.put_length, len(tree), length)
            self.told(tree, keeper.tree)
            self.refused(NoNumber, keeper.undo)

    def test_no_bounds_and_no_number(self):
        for tree in ([], FORK, SIXTY):
            keeper = Keeper(tree)
            for wrong in NO_LENGTHS:
                self.refused(NoNumber, keeper.how_many_from, wrong, 9)
                self.refused(NoNumber, keeper.how_many_from, 0, wrong)
                self.refused(NoNumber, keeper.how_many_from, wrong, wrong)
                self.refused(NoNumber, keeper.nth_pair, wrong)
            for a, b in ((1, 0), (10 ** 17, 3), (HUGE + 1, HUGE)):
                self.refused(NoNumber, keeper.how_many_from, a, b)
            for n in ((len(tree) + 1) * len(tree) // 2, 10 ** 15 - 1, HUGE):
                self.refused(NoNumber, keeper.nth_pair, n)
            self.told(tree, keeper.tree)

    def test_what_is_refused_changes_nothing_that_can_be_undone(self):
        keeper = Keeper([(0, 2)])
        keeper.leaf(1, 3)
        keeper.put_length(1, 7)
        for call, handed, kind in ((keeper.leaf, (3, 1), NoTree), (keeper.leaf, (0, -1), NoTree),
                                   (keeper.put_length, (0, 1), NoPlace), (keeper.put_length, (3, 1), NoPlace),
                                   (keeper.put_length, (1, -1), NoNumber), (keeper.how_many_from, (2, 1), NoNumber),
                                   (keeper.nth_pair, (3,), NoNumber)):
            self.refused(kind, call, *handed)
            self.keeps(keeper, [(0, 7), (1, 3)])
        self.undone_to(keeper, [[(0, 2), (1, 3)], [(0, 2)]])
        keeper.cut()
        self.refused(NoPlace, keeper.cut)
        self.refused(NoPlace, keeper.put_length, 1, 1)
        self.undone_to(keeper, [[(0, 2)]])
        keeper.leaf(0, 1)
        self.undone_to(keeper, [[(0, 2)]])


class OwnTest(KeeperCase):
    def test_what_is_handed_in_is_kept_only_as_a_copy(self):
        tree = list(FORK)
        keeper = Keeper(tree)
        keeper.leaf(0, 1)
        keeper.put_length(1, 5)
        keeper.cut()
        keeper.cut()
        self.assertTrue(exact(tree) == exact(FORK))
        spoil(tree)
        self.keeps(keeper, [(0, 5), (0, 1)])
        for many in range(4):
            keeper.undo()
        self.keeps(keeper, FORK)

    def test_one_list_for_two_keepers(self):
        tree = list(FORK)
        one, other = Keeper(tree), Keeper(tree)
        one.leaf(0, 9)
        self.keeps(other, FORK)
        self.refused(NoNumber, other.undo)
        other.cut()
        self.keeps(one, FORK + [(0, 9)])
        third = Keeper(one.tree())
        third.put_length(1, 0)
        self.keeps(one, FORK + [(0, 9)])
        self.refused(NoNumber, Keeper(one.tree()).undo)

    def test_a_told_tree_is_the_askers_own(self):
        for tree in TREES[:9]:
            keeper = Keeper(tree)
            self.askers_own(keeper.tree)
            keeper.leaf(0, 1)
            self.askers_own(keeper.tree)
            spoil(keeper.tree())
            self.keeps(keeper, tree + [(0, 1)])
            told = keeper.tree()
            keeper.undo()
            self.assertEqual(told, tree + [(0, 1)])
            spoil(told)
            self.keeps(keeper, tree)


if __name__ == "__main__":
    unittest.main()
