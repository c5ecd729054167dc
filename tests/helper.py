"""What the tests share: trees, wrong things, a slow second way to count, and stricter comparisons."""

import unittest

from pairsfar import errors

KINDS = ("NoTree", "NoPlace", "NoNumber", "NoWeights", "NoPair", "NoTable", "TooMany", "NoText", "NoName", "NoRow")

HUGE = 10 ** 6000 + 7

NO_WHOLE_NUMBERS = (
    True, False, None, "", "0", "1", b"0", [], [0], (), (0,), (0, 1), {}, {0: 1}, {0}, frozenset(), object(), int,
    len, range(3), [[0]], [(0, 1)],
)
BELOW_ZERO = (-1, -2, -10 ** 15, -HUGE)

NO_TREES = (
    True, False, None, 0, 1, -1, "", "-", "0:1", b"", (), ((0, 1),), {}, {0: (0, 1)}, set(), {(0, 1)}, object(), list,
    range(0), [None], [0], [1], ["0:1"], ["01"], [b"01"], [[]], [[0, 1]], [()], [(0,)], [(0, 1, 2)], [{}],
    [{0: 1, 2: 3}], [{0, 1}], [(0, 1), [0, 1]], [(0, 1), (0,)], [(0, 1), (0, 1, 2)], [(0, 1), None],
    [(1, 1)], [(2, 1)], [(-1, 1)], [(0, 1), (2, 1)], [(0, 1), (3, 1)], [(0, 1), (-1, 1)], [(HUGE, 1)], [(-HUGE, 1)],
    [(0, -1)], [(0, -HUGE)], [(0, 1), (1, -1)],
    [(False, 1)], [(0, True)], [(0, False)], [(0, 1), (True, 1)], [(0, 1), (1, True)],
    [(None, 1)], [(0, None)], [("0", 1)], [(0, "1")], [([], 1)], [(0, [])], [((), 1)], [(0, ())], [({}, 1)], [(0, {})],
    [((0, 1), 1)], [[(0, 1)]], [(0, 1)] * 60, [(0, 1)] * 61, [(0, 1)] * 120, [(i, 2) for i in range(60)],
    [(0, 1)] * 58 + [(59, 1)],
)

SOME_NO_TREES = (None, (), [(1, 1)], [[0, 1]], [(0, True)], [(0, 1)] * 60)

NO_TEXTS = (
    True, False, None, 0, 1, -1, b"", b"-", b"names", b"0:1", [], ["-"], ["names"], ["0", "1"], (), ("-",), ("names",),
    {}, {"-": "-"}, {"-"}, frozenset(), object(), str, len, range(3), [(0, 1)], [[0, 1]],
)

# Beyond all distances of trees with lengths of at most fifteen figures.
ALL = 10 ** 18 - 1


def chain(lengths):
    return [(at, length) for at, length in enumerate(lengths)]


def star(lengths):
    return [(0, length) for length in lengths]


# The chain 3 - 1 - 0 - 2, with the lengths 2, 1, 1.
FORK = [(0, 1), (0, 1), (1, 2)]
MIXED = [(0, 3), (0, 5), (1, 2), (1, 0), (2, 4), (5, 1), (3, 3)]

TREES = (
    [], [(0, 0)], [(0, 7)], chain([1, 2, 3]), chain([0, 0, 0, 0]), star([4, 4, 4, 4]), star([0, 1, 2, 3, 4]), MIXED,
    [(0, 10 ** 14), (1, 10 ** 14 + 1), (0, 10 ** 14)], [(0, HUGE), (0, HUGE), (1, 1), (2, 1)],
    chain(range(59)), star(range(59)), [(at // 2, at * 7 % 5) for at in range(59)],
    [(at * at % (at + 1), at * 3 % 4) for at in range(59)],
)


def every_tree(tuples, lengths):
    """Every tree of so many tuples with these lengths."""
    trees = [[]]
    for at in range(tuples):
        trees = [tree + [(up, length)] for tree in trees for up in range(at + 1) for length in lengths]
    return trees


def walk(tree, start):
    """A dict from each place to (distance, way) from start, by going along the roads outward."""
    roads = {place: [] for place in range(len(tree) + 1)}
    for at, (up, length) in enumerate(tree):
        roads[up].append((at + 1, length))
        roads[at + 1].append((up, length))
    found = {start: (0, [start])}
    waiting = [start]
    while waiting:
        here = waiting.pop()
        for there, length in roads[here]:
            if there not in found:
                found[there] = (found[here][0] + length, found[here][1] + [there])
                waiting.append(there)
    return found


def all_pairs(tree):
    """Every pair in its order as (distance, pair, way from the first place to the second)."""
    many = len(tree) + 1
    told = []
    for i in range(many):
        found = walk(tree, i)
        told.extend((found[j][0], (i, j), found[j][1]) for j in range(i + 1, many))
    return told


def table_of(tree):
    """How far each place is from each other one, a list of lists of its own."""
    many = len(tree) + 1
    found = [walk(tree, i) for i in range(many)]
    return [[found[i][j][0] for j in range(many)] for i in range(many)]


def some_numbers(start):
    """Whole numbers from 0 to 32767 without an end, all over the place, the same ones from the same start."""
    state = start
    while True:
        state = (state * 1103515245 + 12345) % 2147483648
        yield state // 65536


def pairs_by_distance(tree):
    """A dict from each distance to the sorted list of its pairs."""
    told = {}
    for distance, pair, way in all_pairs(tree):
        told.setdefault(distance, []).append(pair)
    return told


def edges_of(distances):
    """Each distance with its neighbours, and what is beyond them all."""
    near = {0, 1, 10 ** 17, 10 ** 18 - 1}
    for distance in distances:
        near.update((max(distance - 1, 0), distance, distance + 1))
    return sorted(near)


def spans_of(tree):
    """Bounds a, b: of all, of one distance, of none, and some between, each a at most b."""
    edges = edges_of({distance for distance, pair, way in all_pairs(tree)})
    some = edges if len(edges) < 12 else edges[:4] + edges[4:-4:len(edges) // 4] + edges[-4:]
    return [(a, b) for at, a in enumerate(some) for b in some[at:]]


def no_pairs(tree):
    """Things that are no pair of the tree, the first three only because the tree is too small for them."""
    many = len(tree) + 1
    beyond = [(0, many), (many - 1, many), (many, many + 1)]
    forms = [
        True, False, None, 0, 1, -1, "", "01", "0-1", "(0, 1)", b"01", [], [0, 1], ["0", "1"], {}, {0: 1}, {0: 0, 1: 1},
        {0, 1}, range(2), object(), tuple, [(0, 1)], ((0, 1),), ((0, 1), (0, 1)), (), (0,), (1,), (0, 1, 2), (0, 1, 1),
    ]
    places = [
        (0, 0), (1, 1), (many - 1, many - 1), (1, 0), (2, 1), (many - 1, 0), (0, -1), (-1, 0), (-1, 1), (-2, -1),
        (False, 1), (0, True), (False, True), (True, 2), (None, 1), (0, None), ("0", 1), (0, "1"), ("0", "1"),
        ([0], 1), (0, [1]), ((0,), (1,)), (0, {}), (0, HUGE), (-HUGE, 1), (HUGE, HUGE + 1),
    ]
    return beyond + forms + places


def rewritten(tree, start, last_first):
    """The same tree written from another place on, as (tree, a list of the new number of each old place)."""
    found = walk(tree, start)
    order = [start]
    for place in order:
        near = [other for other in found if len(found[other][1]) > 1 and found[other][1][-2] == place]
        order.extend(sorted(near, reverse=last_first))
    number = {place: at for at, place in enumerate(order)}
    written = []
    for place in order[1:]:
        up = found[place][1][-2]
        written.append((number[up], found[place][0] - found[up][0]))
    return written, [number[place] for place in range(len(tree) + 1)]


def exact(thing):
    """A thing that is equal only for things of the same kinds throughout (True is not 1 there)."""
    if isinstance(thing, (list, tuple)):
        return (type(thing), [exact(part) for part in thing])
    if isinstance(thing, dict):
        return (dict, {(type(key), key): exact(thing[key]) for key in thing})
    return (type(thing), thing)


def boxes_in(thing):
    """All lists and dicts within a thing, itself among them."""
    inner = list(thing.values()) if isinstance(thing, dict) else thing if isinstance(thing, (list, tuple)) else []
    found = [thing] if isinstance(thing, (list, dict)) else []
    for part in inner:
        found.extend(boxes_in(part))
    return found


def spoil(box):
    """Change all that a list or a dict has, and give it more."""
    for key in list(box) if isinstance(box, dict) else range(len(box)):
        box[key] = "spoiled"
    if isinstance(box, dict):
        box["more"] = "spoiled"
    else:
        box.append("spoiled")


class FarCase(unittest.TestCase):
    def told(self, expected, call, *handed):
        """The call tells just this, twice, and leaves what is handed in as it was."""
        before = exact(handed)
        answer = call(*handed)
        self.assertTrue(exact(answer) == exact(expected), call.__name__)
        self.assertTrue(exact(call(*handed)) == exact(expected), call.__name__)
        self.assertTrue(exact(handed) == before, "what was handed in is changed")
        return answer

    def askers_own(self, call, *handed):
        """What the call tells has lists or dicts, all new ones, and what is done to them changes nothing else."""
        before = exact(handed)
        one = call(*handed)
        other = call(*handed)
        right = exact(one)
        boxes = boxes_in(one) + boxes_in(other) + boxes_in(handed)
        self.assertNotEqual(boxes_in(one), [])
        self.assertEqual(len({id(box) for box in boxes}), len(boxes))
        for box in boxes_in(one):
            spoil(box)
        self.assertTrue(exact(other) == right, call.__name__)
        self.assertTrue(exact(call(*handed)) == right, call.__name__)
        self.assertTrue(exact(handed) == before, "what was handed in is changed")

    def refused(self, kind, call, *handed):
        """The call is refused with just this class, and leaves what is handed in as it was."""
        before = exact(handed)
        try:
            call(*handed)
        except ValueError as error:
            self.of_one_kind(kind, error)
        else:
            self.fail(call.__name__ + " did not refuse")
        self.assertTrue(exact(handed) == before, "what was handed in is changed")

    def of_one_kind(self, kind, error):
        self.assertIsInstance(error, errors.FarError)
        self.assertIsInstance(error, ValueError)
        self.assertEqual([name for name in KINDS if isinstance(error, getattr(errors, name))], [kind.__name__])
        self.assertEqual(len(error.args), 1)
        self.assertIs(type(error.args[0]), str)
        self.assertEqual(str(error), error.args[0])
