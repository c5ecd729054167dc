"""Stage 4: the weights of pairs, by how far they are."""

from pairsfar.checks import is_whole
from pairsfar.errors import NoWeights
from pairsfar.pairs import pairs_from, pairs_grouped
from pairsfar.trees import check_tree


def are_weights(tree, thing):
    """Tell whether thing is a list of weights for what is known to be a tree."""
    if not isinstance(thing, list) or len(thing) != len(tree) + 1:
        return False
    return all([is_whole(weight) for weight in thing])


def check_weights(tree, thing):
    """Refuse what are no weights of the places of the tree."""
    if not are_weights(tree, thing):
        raise NoWeights("weights are a list of whole numbers, one for each place")


def weight_of(weights, pair):
    """Tell the weight of the pair."""
    i, j = pair
    return weights[i] * weights[j]


def sum_of_weights(weights, pairs):
    """Tell the sum of the weights of the pairs."""
    return sum([weight_of(weights, pair) for pair in pairs])


def weights_by_distance(tree, weights):
    """Tell a dict from each distance that some pair has to the sum of the weights of the pairs that have it."""
    check_tree(tree)
    check_weights(tree, weights)
    groups = pairs_grouped(tree)
    return {distance: sum_of_weights(weights, groups[distance]) for distance in groups}


def weight_from(tree, weights, a, b):
    """Tell the sum of the weights of the pairs from a to b."""
    check_tree(tree)
    check_weights(tree, weights)
    return sum_of_weights(weights, pairs_from(tree, a, b))


def greatest_weight(tree, weights, a, b):
    """Tell the greatest weight of a pair from a to b with the first pair that has it, or None of no pair."""
    check_tree(tree)
    check_weights(tree, weights)
    greatest = None
    # Here the first pair is the first as tuples are, however far it is.
    for pair in sorted(pairs_from(tree, a, b)):
        weight = weight_of(weights, pair)
        if greatest is None or weight > greatest[0]:
            greatest = (weight, pair)
    return greatest
