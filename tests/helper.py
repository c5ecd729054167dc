"""What the tests share: trees, wrong things, a slow second way to count, and stricter comparisons."""

import unittest

from pairsfar import errors

KINDS = ("NoTree", "NoPlace", "NoNumber", "NoWeights", "NoPair", "NoTable", "TooMany", "NoText", "NoName", "NoRow")

HUGE = 10 ** 6000 + 7

NO_WHOLE_NUMBERS = (
    True, False, None, "", "0", "1", b"0", [], [0], (), (0,), (0, 1), {}, {0: 1}, {0}, frozenset(), object(), int,
    len, range(3), [[0]], [(0, 1)],
)
BELOW_ZERO = (-1, -2, -10 ** 15, -HUGE)

NO_TREES = (
    True, False, None, 0, 1, -1, "", "-", "0:1", b"", (), ((0, 1),), {}, {0: (0, 1)}, set(), {(0, 1)}, object(), list,
    range(0), [None], [0], [1], ["0:1"], ["01"], [b"01"], [[]], [[0, 1]], [()], [(0,)], [(0, 1, 2)], [{}], [{0: 1, 2: 3}],
    [{0, 1}], [(0, 1), [0, 1]], [(0, 1), (0,)], [(0, 1), (0, 1, 2)], [(0, 1), None],
    [(1, 1)], [(2, 1)], [(-1, 1)], [(0, 1), (2, 1)], [(0, 1), (3, 1)], [(0, 1), (-1, 1)], [(HUGE, 1)], [(-HUGE, 1)],
    [(0, -1)], [(0, -HUGE)], [(0, 1), (1, -1)],
    [(False, 1)], [(0, True)], [(0, False)], [(0, 1), (True, 1)], [(0, 1), (1, True)],
    [(None, 1)], [(0, None)], [("0", 1)], [(0, "1")], [([], 1)], [(0, [])], [((), 1)], [(0, ())], [({}, 1)], [(0, {})],
    [((0, 1), 1)], [[(0, 1)]], [(0, 1)] * 60, [(0, 1)] * 61, [(0, 1)] * 120, [(i, 2) for i in range(60)],
    [(0, 1)] * 58 + [(59, 1)],
)


def chain(lengths):
    return [(at, length) for at, length in enumerate(lengths)]


def star(lengths):
    return [(0, length) for length in lengths]


MIXED = [(0, 3), (0, 5), (1, 2), (1, 0), (2, 4), (5, 1), (3, 3)]

TREES = (
    [], [(0, 0)], [(0, 7)], chain([1, 2, 3]), chain([0, 0, 0, 0]), star([4, 4, 4, 4]), star([0, 1, 2, 3, 4]), MIXED,
    [(0, 10 ** 14), (1, 10 ** 14 + 1), (0, 10 ** 14)], [(0, HUGE), (0, HUGE), (1, 1), (2, 1)],
    chain(range(59)), star(range(59)), [(at // 2, at * 7 % 5) for at in range(59)],
    [(at * at % (at + 1), at * 3 % 4) for at in range(59)],
)


def every_tree(tuples, lengths):
    """Every tree of so many tuples with these lengths."""
    trees = [[]]
    for at in range(tuples):
        trees = [tree + [(up, length)] for tree in trees for up in range(at + 1) for length in lengths]
    return trees


def walk(tree, start):
    """A dict from each place to (distance, way) from start, by going along the roads outward."""
    roads = {place: [] for place in range(len(tree) + 1)}
    for at, (up, length) in enumerate(tree):
        roads[up].append((at + 1, length))
        roads[at + 1].append((up, length))
    found = {start: (0, [start])}
    waiting = [start]
    while waiting:
        here = waiting.pop()
        for there, length in roads[here]:
            if there not in found:
                found[there] = (found[here][0] + length, found[here][1] + [there])
                waiting.append(there)
    return found


def pairs_by_distance(tree):
    """A dict from each distance to the sorted list of its pairs."""
    told = {}
    for i in range(len(tree) + 1):
        found = walk(tree, i)
        for j in range(i + 1, len(tree) + 1):
            told.setdefault(found[j][0], []).append((i, j))
    return told


def rewritten(tree, start, last_first):
    """The same tree written from another place on, as (tree, a list of the new number of each old place)."""
    found = walk(tree, start)
    order = [start]
    for place in order:
        near = [other for other in found if len(found[other][1]) > 1 and found[other][1][-2] == place]
        order.extend(sorted(near, reverse=last_first))
    number = {place: at for at, place in enumerate(order)}
    written = []
    for place in order[1:]:
        up = found[place][1][-2]
        written.append((number[up], found[place][0] - found[up][0]))
    return written, [number[place] for place in range(len(tree) + 1)]


def exact(thing):
    """A thing that is equal only for things of the same kinds throughout (True is not 1 there)."""
    if isinstance(thing, (list, tuple)):
        return (type(thing), [exact(part) for part in thing])
    if isinstance(thing, dict):
        return (dict, {(type(key), key): exact(thing[key]) for key in thing})
    return (type(thing), thing)


class FarCase(unittest.TestCase):
    def told(self, expected, call, *handed):
        """The call tells just this, twice, and leaves what is handed in as it was."""
        before = exact(handed)
        answer = call(*handed)
        self.assertTrue(exact(answer) == exact(expected), call.__name__)
        self.assertTrue(exact(call(*handed)) == exact(expected), call.__name__)
        self.assertTrue(exact(handed) == before, "what was handed in is changed")
        return answer

    def refused(self, kind, call, *handed):
        """The call is refused with just this class, and leaves what is handed in as it was."""
        before = exact(handed)
        try:
            call(*handed)
        except ValueError as error:
            self.of_one_kind(kind, error)
        else:
            self.fail(call.__name__ + " did not refuse")
        self.assertTrue(exact(handed) == before, "what was handed in is changed")

    def of_one_kind(self, kind, error):
        self.assertIsInstance(error, errors.FarError)
        self.assertIsInstance(error, ValueError)
        self.assertEqual([name for name in KINDS if isinstance(error, getattr(errors, name))], [kind.__name__])
        self.assertEqual(len(error.args), 1)
        self.assertIs(type(error.args[0]), str)
        self.assertEqual(str(error), error.args[0])
