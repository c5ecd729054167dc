"""[2], [3], [19], [20]: the rows of a desk, their answers, and which refusal goes first."""

import unittest

from pairsfar.around import farthest
from pairsfar.desk import Desk
from pairsfar.errors import NoName, NoNumber, NoPair, NoPlace, NoRow, NoText, NoTree, TooMany
from pairsfar.numbered import nth_pair, number_of_pair
from pairsfar.pairs import how_many_from
from pairsfar.roads import pairs_over_roads
from pairsfar.texts import show_tree
from pairsfar.trees import how_far, way_between
from tests.helper import NO_TEXTS, TREES, FarCase, chain, some_numbers, star

# The chain 3 - 1 - 0 - 2 of tests.helper.FORK.
FORK = "0:1 0:1 1:2"
SIXTY = " ".join(["0:1"] * 59)

# Each word of a row about a tree that must stand, with how many numbers it has.
WORDS = {
    "leaf": 2, "cut": 0, "long": 2, "drop": 0, "show": 0, "far": 2, "way": 2, "many": 2, "nth": 1, "number": 2,
    "greatest": 0, "roads": 2,
}

NO_NAMES = (
    "A", "Z", "Ab", "aB", "abcdefgH", "a1", "1a", "1", "0", "a_b", "_", "a-b", "-", "a.b", ".", "a:b", "a'", "?",
    "abcdefghi", "abcdefghij", "a" * 20, "a\t", "a\n", "\ta", "\n", "a\nb",
)

NO_NUMBERS = (
    "00", "01", "000000000", "0000000001", "1000000000", "1234567890", "9" * 15, "-1", "+1", "-0", "1.0", "1e3", "x",
    "1x", "x1", "a", "0x1", "1_0", "1,", "(1)", "0\n", "\t0", "0:1", "0-1", "none", "True", "'0'", "~",
)


def standing(**trees):
    """A new desk with these writings by their names."""
    desk = Desk()
    for name in trees:
        desk.say(f"tree {name} {trees[name]}")
    return desk


class DeskCase(FarCase):
    def says(self, desk, *rows):
        """Each row is answered so, in turn: (row, answer)."""
        for row, answer in rows:
            self.assertEqual((row, desk.say(row)), (row, answer))

    def asks(self, desk, *rows):
        """Each row is answered so, twice: a row that changes nothing."""
        for row, answer in rows:
            self.told(answer, desk.say, row)

    def refuses(self, desk, kind, *rows):
        """Each row is refused with just this class, and the desk has what it had."""
        before = self.all_of(desk)
        for row in rows:
            self.refused(kind, desk.say, row)
            self.assertEqual(self.all_of(desk), before, row)

    def all_of(self, desk):
        return [(name, desk.say(f"show {name}")) for name in desk.names()]


class TreesByNamesTest(DeskCase):
    def test_a_new_desk(self):
        desk = Desk()
        self.told([], desk.names)
        self.asks(desk, ("names", "none"))

    def test_a_tree_is_put_and_shown(self):
        desk = Desk()
        self.says(desk, ("tree a -", "ok"), ("show a", "-"), ("tree b 0:7", "ok"), ("show b", "0:7"), ("show a", "-"))
        self.says(desk, (f"tree long {SIXTY}", "ok"), ("show long", SIXTY), ("names", "a b long"))
        self.says(desk, ("tree a 0:999999999999999", "ok"), ("show a", "0:999999999999999"))

    def test_in_the_place_of_what_stood(self):
        desk = standing(a=FORK, b="0:9")
        self.says(desk, ("tree a 0:5", "ok"), ("show a", "0:5"), ("tree a -", "ok"), ("show a", "-"))
        self.says(desk, ("show b", "0:9"), ("names", "a b"), ("tree a -", "ok"), ("names", "a b"))

    def test_names_alike_but_for_a_sign(self):
        names = ["a", "aa", "aaaaaaaa", "aaaaaaab", "ab", "b", "ba", "x", "xa", "z", "zzzzzzzz"]
        desk = Desk()
        for at, name in enumerate(reversed(names)):
            self.says(desk, (f"tree {name} 0:{at}", "ok"))
        self.told(names, desk.names)
        self.asks(desk, ("names", " ".join(names)))
        for at, name in enumerate(reversed(names)):
            self.asks(desk, (f"show {name}", f"0:{at}"), (f"far {name} 0 1", str(at)))
        self.says(desk, ("leaf aaaaaaaa 1 5", "ok"), ("drop aa", "ok"), ("cut aaaaaaab", "ok"))
        self.asks(desk, ("show aaaaaaaa", "0:8 1:5"), ("show aaaaaaab", "-"), ("show a", "0:10"))
        self.told([name for name in names if name != "aa"], desk.names)

    def test_names_that_are_words(self):
        desk = Desk()
        for word in list(WORDS) + ["tree", "names", "none", "ok"]:
            self.says(desk, (f"tree {word} 0:1", "ok"), (f"leaf {word} 0 2", "ok"), (f"show {word}", "0:1 0:2"))
        self.told(sorted(list(WORDS) + ["tree", "names", "none", "ok"]), desk.names)

    def test_thirty_names(self):
        desk = Desk()
        names = [chr(97 + at % 26) * (1 + at // 26) for at in range(30)]
        for name in names:
            self.says(desk, (f"tree {name} -", "ok"))
        self.asks(desk, ("names", " ".join(sorted(names))))

    def test_dropped(self):
        desk = standing(a="0:1", b="0:2")
        self.says(desk, ("drop a", "ok"), ("names", "b"))
        self.refuses(desk, NoName, "drop a", "show a", "cut a")
        self.says(desk, ("drop b", "ok"), ("names", "none"))
        self.told([], desk.names)
        self.says(desk, ("tree a 0:3", "ok"), ("show a", "0:3"), ("names", "a"))

    def test_two_desks_are_apart(self):
        one, other = Desk(), Desk()
        self.says(one, ("tree a 0:1", "ok"))
        self.told([], other.names)
        self.refuses(other, NoName, "show a")
        self.says(other, ("tree a 0:2", "ok"), ("leaf a 0 9", "ok"))
        self.says(one, ("show a", "0:1"), ("drop a", "ok"))
        self.says(other, ("show a", "0:2 0:9"))

    def test_told_names_are_the_askers_own(self):
        for desk in (Desk(), standing(a="-", b="0:1")):
            self.askers_own(desk.names)
        desk = standing(a="-", b="0:1")
        told = desk.names()
        desk.say("drop a")
        self.assertEqual(told, ["a", "b"])
        told.clear()
        self.told(["b"], desk.names)


class ChangesTest(DeskCase):
    def test_leaf_cut_long(self):
        desk = Desk()
        self.says(desk, ("tree a -", "ok"), ("leaf a 0 5", "ok"), ("show a", "0:5"))
        self.says(desk, ("leaf a 1 0", "ok"), ("leaf a 0 999999999", "ok"), ("show a", "0:5 1:0 0:999999999"))
        self.says(desk, ("long a 1 6", "ok"), ("long a 3 0", "ok"), ("show a", "0:6 1:0 0:0"))
        self.says(desk, ("long a 2 0", "ok"), ("show a", "0:6 1:0 0:0"), ("cut a", "ok"), ("show a", "0:6 1:0"))
        self.says(desk, ("cut a", "ok"), ("cut a", "ok"), ("show a", "-"))
        self.refuses(desk, NoPlace, "cut a", "long a 1 1", "long a 0 1")

    def test_sixty_places(self):
        desk = standing(a=" ".join(["0:1"] * 58))
        self.refuses(desk, NoTree, "leaf a 59 1")
        self.says(desk, ("leaf a 58 7", "ok"), ("far a 59 0", "8"))
        self.refuses(desk, TooMany, "leaf a 0 1", "leaf a 59 1", "leaf a 0 0")
        self.refuses(desk, NoTree, "leaf a 60 1", "leaf a 999999999 1")
        self.says(desk, ("cut a", "ok"), ("leaf a 0 2", "ok"))

    def test_one_tree_changes_and_no_other(self):
        desk = standing(a=FORK, b=FORK)
        self.says(desk, ("leaf a 3 3", "ok"), ("long b 1 8", "ok"), ("cut b", "ok"))
        self.says(desk, ("show a", FORK + " 3:3"), ("show b", "0:8 0:1"))


class AnswersTest(DeskCase):
    def test_by_hand(self):
        desk = standing(a=FORK, one="-", two="0:0")
        self.asks(desk, ("show a", FORK), ("show one", "-"))
        self.asks(desk, ("far a 2 3", "4"), ("far a 3 3", "0"), ("far two 0 1", "0"))
        self.asks(desk, ("way a 2 3", "2 0 1 3"), ("way a 3 2", "3 1 0 2"), ("way a 1 1", "1"), ("way one 0 0", "0"))
        self.asks(desk, ("many a 1 2", "4"), ("many a 5 9", "0"), ("many a 0 999999999", "6"), ("many one 0 9", "0"))
        self.asks(desk, ("nth a 0", "0-1"), ("nth a 5", "2-3"), ("nth a 3", "1-3"), ("nth two 0", "0-1"))
        self.asks(desk, ("number a 0 1", "0"), ("number a 2 3", "5"), ("number a 1 3", "3"))
        self.asks(desk, ("greatest a", "4 2-3"), ("greatest two", "0 0-1"), ("greatest one", "none"))
        self.asks(desk, ("roads a 0 9", "4 3 3"), ("roads a 9 9", "0 0 0"), ("roads two 0 0", "1"))
        self.asks(desk, ("roads one 0 9", "none"), ("roads one 0 0", "none"), ("names", "a one two"))

    def test_answers_of_many_figures(self):
        desk = standing(a="0:999999999999999 1:999999999999999 0:999999999999999")
        self.asks(desk, ("far a 2 3", "2999999999999997"), ("greatest a", "2999999999999997 2-3"))

    def test_places_of_two_figures(self):
        desk = standing(a=" ".join(f"{at}:1" for at in range(59)))
        self.asks(desk, ("way a 9 12", "9 10 11 12"), ("greatest a", "59 0-59"), ("nth a 58", "58-59"))
        self.asks(desk, ("number a 0 59", "1769"), ("far a 59 10", "49"), ("many a 10 10", "50"))

    def test_as_the_stages_tell(self):
        for tree in list(TREES[:9]) + [chain([1, 5, 0] * 19), star(range(59)), TREES[12]]:
            desk = standing(t=show_tree(tree))
            many = len(tree) + 1
            numbers = some_numbers(many)
            for turn in range(8):
                i, j = sorted((next(numbers) % many, next(numbers) % many))
                self.asks(desk, (f"far t {i} {j}", str(how_far(tree, i, j))))
                self.asks(desk, (f"way t {j} {i}", " ".join(str(place) for place in way_between(tree, j, i))))
                a = next(numbers) % 9
                self.asks(desk, (f"many t {a} {a + turn}", str(how_many_from(tree, a, a + turn))))
                over = " ".join(str(count) for count in pairs_over_roads(tree, a, a + turn)) or "none"
                self.asks(desk, (f"roads t {a} {a + turn}", over))
                if i < j:
                    n = number_of_pair(tree, (i, j))
                    self.asks(desk, (f"number t {i} {j}", str(n)), (f"nth t {n}", f"{i}-{j}"))
                    self.assertEqual(nth_pair(tree, n), (i, j))
            found = farthest(tree)
            self.asks(desk, ("greatest t", f"{found[0]} {found[1][0]}-{found[1][1]}" if found else "none"))

    def test_an_answer_is_of_the_tree_that_stands_now(self):
        desk = standing(a=FORK)
        self.asks(desk, ("greatest a", "4 2-3"), ("many a 0 2", "4"))
        desk.say("long a 2 0")
        self.asks(desk, ("greatest a", "3 0-3"), ("many a 0 2", "4"), ("nth a 0", "0-2"))
        desk.say("leaf a 3 50")
        self.asks(desk, ("greatest a", "53 0-4"), ("many a 0 99", "10"), ("roads a 0 99", "6 4 6 4"))
        desk.say("tree a -")
        self.asks(desk, ("greatest a", "none"), ("many a 0 99", "0"), ("roads a 0 99", "none"))


class NoRowTest(DeskCase):
    def test_what_is_no_text(self):
        for desk in (Desk(), standing(a=FORK)):
            for thing in NO_TEXTS:
                self.refused(NoRow, desk.say, thing)

    def test_other_words(self):
        desk = standing(a=FORK)
        self.refuses(desk, NoRow, "", " ", "  ", "\n", "a", "ok", "none", "show", "tree", "undo a", "weigh a", "Show a",
                     "SHOW a", "shows a", "sho a", "show\ta", "show\na", "showa", "far", "far a", "-", FORK, "a show",
                     "name", "Names", "names a", "names ", " names", "names names", "names\n", "past a 0 9")

    def test_a_word_more_or_less(self):
        for desk in (Desk(), standing(a=FORK)):
            for word, due in WORDS.items():
                for many in range(6):
                    if many != due:
                        self.refuses(desk, NoRow, " ".join([word, "a"] + ["1"] * many))
                self.refuses(desk, NoRow, word, word + " ", " ".join([word] + ["1"] * due))

    def test_blanks(self):
        desk = standing(a=FORK)
        for word, due in WORDS.items():
            words = [word, "a"] + ["1"] * due
            row = " ".join(words)
            self.refuses(desk, NoRow, " " + row, row + " ", row + "  ", row + "\n", "\t" + row)
            for at in range(1, len(words)):
                for gap in ("  ", "\t", "\n", " \t", ",", ""):
                    self.refuses(desk, NoRow, " ".join(words[:at]) + gap + " ".join(words[at:]))

    def test_no_name(self):
        for desk in (Desk(), standing(a=FORK)):
            for name in NO_NAMES + ("",):
                for word, due in WORDS.items():
                    self.refuses(desk, NoRow, " ".join([word, name] + ["1"] * due))
                self.refuses(desk, NoRow, f"tree {name} -", f"tree {name} 0:1", f"tree {name} ", f"tree {name} x")

    def test_no_number(self):
        for desk in (Desk(), standing(a=FORK)):
            for wrong in NO_NUMBERS + ("",):
                self.refuses(desk, NoRow, f"nth a {wrong}")
                for word in ("leaf", "long", "far", "way", "many", "number", "roads"):
                    self.refuses(desk, NoRow, f"{word} a {wrong} 1", f"{word} a 1 {wrong}", f"{word} a {wrong} {wrong}")

    def test_numbers_of_one_and_of_nine_figures(self):
        desk = standing(a=FORK)
        self.says(desk, ("leaf a 0 999999999", "ok"), ("long a 4 100000000", "ok"), ("many a 0 999999999", "10"))
        self.says(desk, ("roads a 0 999999999", "6 4 4 4"), ("long a 4 0", "ok"), ("leaf a 0 0", "ok"))
        self.refuses(desk, NoNumber, "nth a 999999999")
        self.refuses(desk, NoPlace, "far a 0 999999999", "way a 999999999 0", "long a 999999999 1")
        self.refuses(desk, NoRow, "leaf a 0 1000000000", "many a 0 1000000000", "nth a 1000000000")

    def test_tree_without_its_blank(self):
        desk = standing(a=FORK)
        self.refuses(desk, NoRow, "tree", "tree ", "tree  ", "tree a", "tree b", "tree abcdefgh", "tree 0:1", "tree -",
                     "tree  a", "tree  -", "tree  a -", "tree  0:1", " tree a -", "  tree a -", "tree\ta -",
                     "tree\na -", "tree a\t-", "tree a\n-", "tree a\n", "Tree a -", "trees a -", "treea -", "tree:a -")

    def test_tree_by_a_name_of_eight_letters_and_of_nine(self):
        desk = Desk()
        self.says(desk, ("tree abcdefgh 0:1", "ok"), ("tree zyxwvuts -", "ok"))
        self.refuses(desk, NoRow, "tree abcdefghi 0:1", "tree abcdefghi ", "tree abcdefghi x", "show abcdefghi")


class RefusedTest(DeskCase):
    def test_no_name_stands(self):
        for desk in (Desk(), standing(a=FORK, ab=FORK)):
            for name in ("b", "aa", "abc", "abcdefgh", "names"):
                for word, due in WORDS.items():
                    self.refuses(desk, NoName, " ".join([word, name] + ["1"] * due))
                    self.refuses(desk, NoName, " ".join([word, name] + ["999999999"] * due))
                self.refuses(desk, NoName, f"many {name} 2 1", f"long {name} 0 1", f"number {name} 1 0")

    def test_no_text(self):
        for desk in (Desk(), standing(a=FORK), standing(b=FORK)):
            for writing in ("", " ", "  ", "x", "0", "0:", ":1", "-1", "--", "- ", " -", " 0:1", "0:1 ", "0:1  0:1",
                            "00:1", "0:01", "1:0", "0:1 2:1", "0:-1", "0-1", "b 0:1", "a -", "0:1\n", "0:1\t0:1", "\n",
                            "none", SIXTY + " 0:1", SIXTY + " "):
                self.refuses(desk, NoText, f"tree a {writing}")

    def test_as_the_stages_refuse(self):
        desk = standing(a=FORK, one="-", full=SIXTY)
        self.refuses(desk, NoTree, "leaf a 4 1", "leaf a 999999999 0", "leaf one 1 1", "leaf full 60 1")
        self.refuses(desk, TooMany, "leaf full 0 1", "leaf full 59 999999999")
        self.refuses(desk, NoPlace, "cut one", "long a 0 1", "long a 4 1", "long one 0 0", "long one 1 1")
        self.refuses(desk, NoPlace, "far a 0 4", "far a 4 0", "far one 0 1", "far full 60 0")
        self.refuses(desk, NoPlace, "way a 4 4", "way one 1 0", "way a 0 4")
        self.refuses(desk, NoNumber, "many a 2 1", "many one 1 0", "roads a 2 1", "roads one 1 0")
        self.refuses(desk, NoNumber, "roads one 999999999 3", "roads full 1 0")
        self.refuses(desk, NoNumber, "nth a 6", "nth one 0", "nth full 1770", "nth a 999999999")
        self.refuses(desk, NoPair, "number a 1 0", "number a 1 1", "number a 0 4", "number one 0 0", "number one 0 1")
        self.refuses(desk, NoPair, "number a 4 5", "number full 0 60", "number a 0 999999999")

    def test_no_row_goes_ahead_of_no_name(self):
        desk = standing(a=FORK)
        self.refuses(desk, NoRow, "show b ", "far b 0", "far b 0 00", "nth b x", "many b 2 1 ", "show B", "cut b 1")

    def test_what_is_refused_changes_nothing(self):
        desk = standing(a=FORK, one="-", full=SIXTY)
        self.refuses(desk, NoText, "tree a 0:1 9:9", "tree new 0:1 ", "tree one ")
        self.refuses(desk, NoRow, "drop a ", "drop a b", "tree new", "cut a 1", "leaf a 0")
        self.refuses(desk, NoName, "drop new", "cut new", "leaf new 0 1")
        self.told(["a", "full", "one"], desk.names)
        self.says(desk, ("show a", FORK), ("show one", "-"), ("show full", SIXTY), ("names", "a full one"))


if __name__ == "__main__":
    unittest.main()
