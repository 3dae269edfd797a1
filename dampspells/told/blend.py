"""Two lists of hours, blended index by index."""

from dampspells.base.errors import BadRow


def sooner(one, other):
    """The list of the earlier hours."""
    return [min(pair) for pair in _pairs(one, other)]


def later(one, other):
    """The list of the later hours."""
    return [max(pair) for pair in _pairs(one, other)]


def _pairs(one, other):
    if len(one) != len(other):
        raise BadRow("the lists have different lengths")
    return list(zip(one, other))
