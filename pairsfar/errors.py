"""The refusals. Each class stands under FarError and under no other one of them."""


class FarError(ValueError):
    """Any refusal."""


class NoTree(FarError):
    """What was handed in is no tree."""


class NoPlace(FarError):
    """What was handed in is no place of the tree."""


class NoNumber(FarError):
    """What was handed in is no number that is due here."""


class NoWeights(FarError):
    """What was handed in are no weights of the tree."""


class NoPair(FarError):
    """What was handed in is no pair of the tree."""


class NoTable(FarError):
    """What was handed in is no table of distances."""


class TooMany(FarError):
    """There are as many places as a tree may have."""


class NoText(FarError):
    """What was handed in writes nothing that can be read back."""


class NoName(FarError):
    """No tree stands by the name."""


class NoRow(FarError):
    """What was handed in is no row of the desk."""
