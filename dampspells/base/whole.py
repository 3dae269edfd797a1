"""Whole numbers."""


def ceil_div(x, y):
    """The least integer that is not less than x / y, for y > 0."""
    return -(-x // y)
