"""[2], [3], [18]: how trees and lists of pairs are written, and read back."""

import unittest

from pairsfar.errors import NoText, NoTree
from pairsfar.pairs import pairs_at
from pairsfar.texts import read_pairs, read_tree, show_pairs, show_tree
from tests.helper import MIXED, NO_TEXTS, NO_TREES, TREES, FarCase, chain, every_tree, exact, star

WRITTEN_TREES = (
    ([], "-"), ([(0, 0)], "0:0"), ([(0, 7)], "0:7"), ([(0, 1), (1, 20), (0, 300)], "0:1 1:20 0:300"),
    (chain([1, 2, 3]), "0:1 1:2 2:3"), (star([4, 0]), "0:4 0:0"), ([(0, 999999999)], "0:999999999"),
    ([(0, 1234567890)], "0:1234567890"), ([(0, 10 ** 15 - 1), (1, 10 ** 14)], "0:999999999999999 1:100000000000000"),
    (MIXED, "0:3 0:5 1:2 1:0 2:4 5:1 3:3"), (star([1] * 59), " ".join(["0:1"] * 59)),
    (chain([0] * 59), " ".join(f"{at}:0" for at in range(59))),
)

WRITTEN_PAIRS = (
    ([], "-"), ([(0, 1)], "0-1"), ([(3, 12)], "3-12"), ([(0, 1), (0, 2)], "0-1 0-2"), ([(5, 9), (0, 1)], "5-9 0-1"),
    ([(0, 1), (0, 1)], "0-1 0-1"), ([(58, 59), (2, 3), (58, 59)], "58-59 2-3 58-59"),
    ([(0, 999999999)], "0-999999999"), ([(999999998, 999999999)], "999999998-999999999"),
    ([(100, 1000)], "100-1000"), ([(9, 10)], "9-10"), ([(99999999, 100000000)], "99999999-100000000"),
    ([(i, i + 10 ** 8) for i in range(120)], " ".join(f"{i}-{i + 10 ** 8}" for i in range(120))),
)

# What writes neither a tree nor a list of pairs.
NO_WRITINGS = (
    "", " ", "  ", "--", "- ", " -", "- -", "-\n", "\n", "\t", ".", "0", "1", "00", ":", "-:", ":-", "0 1", "none",
    "ok", "[]", "[(0, 1)]", "(0, 1)", "0,1", "0;1", "0/1", "0.1", "0_1", "0=1", "0~1", "x", "a:b", "a-b",
)

NO_WRITTEN_TREES = NO_WRITINGS + (
    "0:", ":0", "0:1:", ":0:1", "0:1:2", "0::1", "0:1,0:1", "0:1;", "0:1 -", "- 0:1", "-0:1", "0:-1", "+0:1", "0:+1",
    "0-1", "0-1 0-2", "0:1 0-1",
    "00:1", "0:01", "0:00", "0:007", "0:1 01:1", "0:1 1:01", "00:00",
    " 0:1", "0:1 ", "0:1  0:1", "  0:1", "0:1  ", "0: 1", "0 :1", "0 : 1", "0:1\t0:1", "0:1\n0:1", "0:1\n", "\n0:1",
    "\t0:1", "0:1\t", "0:1 \n", "0:\n1",
    "1:0", "2:1", "0:1 2:1", "0:1 0:1 3:1", "999999999:1", "0:1 10:1", "0:1 1:1 2:1 4:1",
    "0:x", "x:0", "0:1x", "0x:1", "0:1.", "0:1.0", "0:1e3", "0:1_000", "0:0x1", "0:(1)", "0:'1'", "O:1", "0:l",
    "0:1 ?", "? 0:1", "0:1 0:1 0:", "0:1 0:1 0", "0:1 :",
    " ".join(["0:1"] * 60), " ".join(["0:1"] * 61), " ".join(["0:1"] * 120), " ".join(f"{at}:1" for at in range(60)),
)

NO_WRITTEN_PAIRS = NO_WRITINGS + (
    "0-", "-1", "0-1-", "-0-1", "0-1-2", "0--1", "0-1,0-2", "0-1;", "0-1 -", "- 0-1", "+0-1", "0-+1", "0:1", "0:1 1:2",
    "0-1 0:1",
    "00-1", "0-01", "0-00", "01-2", "1-02", "0-1 0-02", "0-1 00-2", "0-0000000001", "000000000-1",
    " 0-1", "0-1 ", "0-1  0-2", "  0-1", "0-1  ", "0- 1", "0 -1", "0 - 1", "0-1\t0-2", "0-1\n0-2", "0-1\n", "\n0-1",
    "\t0-1", "0-1\t",
    "0-0", "1-1", "1-0", "10-9", "2-1", "0-1 2-1", "0-1 3-3", "999999999-0", "999999999-999999999",
    "0-1000000000", "1-1234567890", "1000000000-1000000001", "9999999999-0", "0-9999999999", "0-1 0-1000000000",
    "0-999999999999999", "0-x", "x-1", "0-1x", "a0-1", "0-1.0", "0-1e3", "0-1_0", "0-0x1", "(0-1)",
    "0-1 ?", "0-1 0-2 0-", "0-1 0-2 3",
)


class ShowTreeTest(FarCase):
    def test_by_hand(self):
        for tree, text in WRITTEN_TREES:
            self.told(text, show_tree, tree)

    def test_no_tree(self):
        for thing in NO_TREES:
            self.refused(NoTree, show_tree, thing)


class ReadTreeTest(FarCase):
    def test_by_hand(self):
        for tree, text in WRITTEN_TREES:
            self.told(tree, read_tree, text)

    def test_what_is_written_is_read_back(self):
        for tree in list(TREES[:9]) + list(TREES[10:]) + every_tree(3, (0, 1, 10)):
            self.told(tree, read_tree, show_tree(tree))

    def test_no_text_of_a_tree(self):
        for text in NO_WRITTEN_TREES + NO_TEXTS:
            self.refused(NoText, read_tree, text)

    def test_each_sign_alone_and_put_in(self):
        for code in list(range(32, 127)) + [9, 10, 13]:
            sign = chr(code)
            if sign != "%":
                if sign != "-":
                    self.refused(NoText, read_tree, sign)
                if sign not in "0123456789":
                    for at in range(5):
                        text = "0:12"[:at] + sign + "0:12"[at:]
                        self.refused(NoText, read_tree, text)

    def test_most_and_one_more(self):
        self.told(star([2] * 59), read_tree, " ".join(["0:2"] * 59))
        self.refused(NoText, read_tree, " ".join(["0:2"] * 60))

    def test_a_told_tree_is_the_askers_own(self):
        for text in ("-", "0:1", "0:3 0:5 1:2"):
            self.askers_own(read_tree, text)


class ShowPairsTest(FarCase):
    def test_by_hand(self):
        for pairs, text in WRITTEN_PAIRS:
            self.told(text, show_pairs, pairs)


class ReadPairsTest(FarCase):
    def test_by_hand(self):
        for pairs, text in WRITTEN_PAIRS:
            self.told(pairs, read_pairs, text)

    def test_what_is_written_is_read_back(self):
        for tree in (star([1] * 59), MIXED, []):
            for distance in (0, 1, 2, 5):
                pairs = pairs_at(tree, distance)
                self.told(pairs, read_pairs, show_pairs(pairs))
                self.told(pairs[::-1], read_pairs, show_pairs(pairs[::-1]))

    def test_no_text_of_pairs(self):
        for text in NO_WRITTEN_PAIRS + NO_TEXTS:
            self.refused(NoText, read_pairs, text)

    def test_each_sign_alone_and_put_in(self):
        for code in list(range(32, 127)) + [9, 10, 13]:
            sign = chr(code)
            if sign != "%":
                if sign != "-":
                    self.refused(NoText, read_pairs, sign)
                if sign not in "0123456789":
                    for at in range(5):
                        text = "0-12"[:at] + sign + "0-12"[at:]
                        self.refused(NoText, read_pairs, text)

    def test_figures_of_a_pair(self):
        for figures in range(1, 10):
            greatest = 10 ** figures - 1
            self.told([(greatest - 1, greatest)], read_pairs, f"{greatest - 1}-{greatest}")
        for figures in range(10, 16):
            self.refused(NoText, read_pairs, f"0-{10 ** figures - 1}")
            self.refused(NoText, read_pairs, f"{10 ** figures - 2}-{10 ** figures - 1}")

    def test_a_told_list_is_the_askers_own(self):
        for text in ("-", "0-1", "0-1 0-1 5-7"):
            self.askers_own(read_pairs, text)


class ReadAndShownTest(FarCase):
    def test_what_is_read_is_written_so_again(self):
        for tree, text in WRITTEN_TREES:
            self.assertEqual(show_tree(read_tree(text)), text)
        for pairs, text in WRITTEN_PAIRS:
            self.assertEqual(show_pairs(read_pairs(text)), text)

    def test_a_list_that_its_owner_changes_is_not_kept(self):
        tree = [(0, 1)]
        self.told("0:1", show_tree, tree)
        tree.append((1, 2))
        self.told("0:1 1:2", show_tree, tree)
        pairs = [(0, 1)]
        self.told("0-1", show_pairs, pairs)
        pairs.clear()
        self.told("-", show_pairs, pairs)

    def test_behind_a_refusal_all_is_as_before(self):
        self.refused(NoText, read_tree, "0:1 5:1")
        self.refused(NoText, read_pairs, "0-1 1-0")
        self.assertTrue(exact(read_tree("0:1")) == exact([(0, 1)]))
        self.assertTrue(exact(read_pairs("0-1")) == exact([(0, 1)]))


if __name__ == "__main__":
    unittest.main()
