"""How climates lie beneath each other."""

from dampspells.sky.climate import Climate
from dampspells.sky.weather import Weather


def beneath(one, other):
    """True if each weather of the one is a weather of the other, otherwise False."""
    return all([w <= other.longest(g) for w, g in one])


def parting(one, other):
    """The weather of the one with the fewest hours that is not a weather of the other, or None."""
    for w, g in one:
        most = other.longest(g)
        if w > most:
            return Weather([g, most + 1])
    return None


def joined(*climates):
    """The join of all the climates."""
    whole = Climate.dry()
    for climate in climates:
        whole = whole | climate
    return whole


def shared(first, *rest):
    """The meet of all the climates."""
    whole = first
    for climate in rest:
        whole = whole & climate
    return whole
