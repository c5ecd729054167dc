"""Stage 10: a desk that has trees by names, and answers rows."""

from pairsfar.around import farthest
from pairsfar.errors import NoName, NoRow
from pairsfar.keeper import with_leaf, with_length, without_last
from pairsfar.numbered import nth_pair, number_of_pair
from pairsfar.pairs import how_many_from
from pairsfar.roads import pairs_over_roads
from pairsfar.texts import is_made_of, is_short_number, read_tree, show_pair, show_tree, with_blanks
from pairsfar.trees import how_far, way_between

SMALL_LETTERS = "abcdefghijklmnopqrstuvwxyz"
MOST_LETTERS = 8
DONE = "ok"
OF_NONE = "none"

# The words of the rows about a tree that must stand, each with how many numbers are due behind the name.
NUMBERS_DUE = {
    "leaf": 2, "cut": 0, "long": 2, "drop": 0, "show": 0, "far": 2, "way": 2, "many": 2, "nth": 1, "number": 2,
    "greatest": 0, "roads": 2,
}
CHANGING = ("leaf", "cut", "long")


def is_name(word):
    """Tell whether the word is a name."""
    return is_made_of(word, SMALL_LETTERS) and len(word) <= MOST_LETTERS


def read_tree_row(row):
    """Tell the name and the writing in a row that begins with the word tree and a blank."""
    word, blank, rest = row.partition(" ")
    name, blank, writing = rest.partition(" ")
    if not is_name(name) or not blank:
        raise NoRow("a tree is told as tree, a name and its writing")
    return (name, writing)


def read_row(row):
    """Tell the word, the name and the list of numbers in a row about a tree that must stand."""
    word, *rest = row.split(" ")
    if word not in NUMBERS_DUE or len(rest) != NUMBERS_DUE[word] + 1:
        raise NoRow("no row has this word with so many others")
    name, *numbers = rest
    if not is_name(name) or not all([is_short_number(number) for number in numbers]):
        raise NoRow("a name has one to eight small letters, a number one to nine figures")
    return (word, name, [int(number) for number in numbers])


def numbers_shown(numbers):
    """Tell the writing of a list of numbers."""
    return with_blanks([str(number) for number in numbers], OF_NONE)


def farthest_shown(tree):
    """Tell the writing of the greatest distance with its pair."""
    found = farthest(tree)
    if found is None:
        return OF_NONE
    distance, pair = found
    return f"{distance} {show_pair(pair)}"


def changed(tree, word, numbers):
    """Tell the tree that a row of a changing word makes of the tree."""
    match [word, *numbers]:
        case ["leaf", up, length]:
            return with_leaf(tree, up, length)
        case ["long", p, length]:
            return with_length(tree, p, length)
        case _:
            # cut: no other word changes a tree.
            return without_last(tree)


def answer(tree, word, numbers):
    """Tell the answer to a row that asks about the tree."""
    match [word, *numbers]:
        case ["far", i, j]:
            return str(how_far(tree, i, j))
        case ["way", i, j]:
            return numbers_shown(way_between(tree, i, j))
        case ["many", a, b]:
            return str(how_many_from(tree, a, b))
        case ["nth", n]:
            return show_pair(nth_pair(tree, n))
        case ["number", i, j]:
            return str(number_of_pair(tree, (i, j)))
        case ["greatest"]:
            return farthest_shown(tree)
        case ["roads", a, b]:
            return numbers_shown(pairs_over_roads(tree, a, b))
        case _:
            # show: read_row lets no other word come here.
            return show_tree(tree)


class Desk:
    """Trees by names."""

    def __init__(self):
        self.standing = {}

    def names(self):
        """Tell the names by which trees stand, in the order of letters."""
        return sorted(self.standing)

    def say(self, row):
        """Do or answer what the row says."""
        if not isinstance(row, str):
            raise NoRow("a row is a text")
        if row == "names":
            return with_blanks(self.names(), OF_NONE)
        if row.startswith("tree "):
            return self.put_tree(row)
        return self.say_of_standing(row)

    def put_tree(self, row):
        """Let the tree of the row stand by its name."""
        name, writing = read_tree_row(row)
        self.standing[name] = read_tree(writing)
        return DONE

    def say_of_standing(self, row):
        """Do or answer what the row says about a tree that must stand."""
        word, name, numbers = read_row(row)
        if name not in self.standing:
            raise NoName("no tree stands by this name")
        if word == "drop":
            del self.standing[name]
            return DONE
        tree = self.standing[name]
        if word in CHANGING:
            self.standing[name] = changed(tree, word, numbers)
            return DONE
        return answer(tree, word, numbers)
