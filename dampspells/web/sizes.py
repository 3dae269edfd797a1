"""The sizes up to which webs are made."""

from dampspells.base.errors import TooLarge

MOST_FARTHEST = 6
MOST_NEED = 8
MOST_PEAK = 6


def check_climate(climate, most_need, most_peak):
    """Raises `TooLarge` if the need or the peak is greater."""
    if climate.need > most_need or climate.peak > most_peak:
        raise TooLarge(f"the need of the climate is greater than {most_need} or its peak greater than {most_peak}")


def check_small(farthest, climate):
    """Raises `TooLarge` if this farthest step or the climate is too large for webs of all ways to work."""
    if farthest > MOST_FARTHEST:
        raise TooLarge(f"a step is greater than {MOST_FARTHEST}")
    check_climate(climate, MOST_NEED, MOST_PEAK)
