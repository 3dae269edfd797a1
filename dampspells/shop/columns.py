"""Columns of the hours by which coats are sure."""

from dampspells.lead.loss import check_coat, losses
from dampspells.lead.verdict import check_sound


def sure_columns(lacquer, climate, most):
    """The list of a line for each coat from 0 to `most`: its number and the hour by which it is sure."""
    check_sound(lacquer, climate)
    check_coat(most)
    late = losses(lacquer, climate, most)
    return [f"{n:>4}{1 + n * lacquer.a + lost:>7}" for n, lost in enumerate(late)]
