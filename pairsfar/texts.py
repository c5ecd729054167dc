"""Stage 9: how trees and pairs are written, and read back."""

from pairsfar.errors import NoText
from pairsfar.trees import check_tree, is_tree

FIGURES = "0123456789"
MOST_FIGURES = 9
EMPTY = "-"


def is_made_of(word, signs):
    """Tell whether the word has signs, and only such."""
    return word != "" and all([sign in signs for sign in word])


def is_number(word):
    """Tell whether the word writes a whole number from 0 on."""
    return is_made_of(word, FIGURES) and (word == "0" or word[0] != "0")


def is_short_number(word):
    """Tell whether the word writes a whole number of one to nine figures."""
    return is_number(word) and len(word) <= MOST_FIGURES


def with_blanks(words, of_none):
    """Tell the words with single blanks between, or what is written of none."""
    return " ".join(words) if words else of_none


def words_in(text):
    """Tell the words that the text has with single blanks between, none where it is written of none."""
    if not isinstance(text, str):
        raise NoText("only a text can be read")
    return [] if text == EMPTY else text.split(" ")


def show_pair(pair):
    """Tell the writing of the pair."""
    i, j = pair
    return f"{i}-{j}"


def read_pair(word):
    """Tell the pair that the word writes."""
    i, sign, j = word.partition("-")
    if not is_short_number(i) or not is_short_number(j) or int(i) >= int(j):
        raise NoText("a pair is written i-j, i below j, each of one to nine figures")
    return (int(i), int(j))


def read_road(word):
    """Tell the tuple (up, length) that the word writes, whether or not a tree may have it."""
    up, sign, length = word.partition(":")
    if not is_number(up) or not is_number(length):
        raise NoText("a tuple of a tree is written up:length")
    return (int(up), int(length))


def show_tree(tree):
    """Tell the writing of the tree."""
    check_tree(tree)
    return with_blanks([f"{up}:{length}" for up, length in tree], EMPTY)


def read_tree(text):
    """Tell the tree that the text writes."""
    tree = [read_road(word) for word in words_in(text)]
    if not is_tree(tree):
        raise NoText("what is written here is no tree")
    return tree


def show_pairs(pairs):
    """Tell the writing of the list of pairs."""
    return with_blanks([show_pair(pair) for pair in pairs], EMPTY)


def read_pairs(text):
    """Tell the list of pairs that the text writes."""
    return [read_pair(word) for word in words_in(text)]
