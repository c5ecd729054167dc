"""What a whole number is, and the refusals of numbers: the same for all modules."""

from pairsfar.errors import NoNumber


def is_whole(thing):
    """Tell whether thing is a whole number."""
    # To Python a truth is an int, too; here it is none.
    return isinstance(thing, int) and not isinstance(thing, bool)


def is_whole_from_zero(thing):
    """Tell whether thing is a whole number from 0 on."""
    return is_whole(thing) and thing >= 0


def check_distance(thing):
    """Refuse what is no distance."""
    # No message shows what was handed in: Python does not write out every number.
    if not is_whole_from_zero(thing):
        raise NoNumber("a distance is a whole number from 0 on")


def check_bounds(a, b):
    """Refuse what are no bounds of distances."""
    check_distance(a)
    check_distance(b)
    if a > b:
        raise NoNumber("the lower bound is above the upper one")
