"""Good places for coats in a run that a spell follows."""

from dampspells.base.errors import BadNumber

MOST_LENGTH = 400


def is_good(lacquer, climate, run, ahead):
    """True if the place at this distance from the spell is good, otherwise False."""
    _check_place(ahead, run)
    return _suffices(lacquer, climate.longest(run), ahead)


def good_places(lacquer, climate, run):
    """The ascending list of the good places."""
    _check_place(1, run)
    damp = climate.longest(run)
    return [place for place in range(1, run + 1) if _suffices(lacquer, damp, run - place + 1)]


def leg(lacquer, climate, run, place):
    """The places of the coats that are laid at good places from this place on."""
    _check_place(place, run)
    coats = []
    soonest = place
    for good in good_places(lacquer, climate, run):
        if good >= soonest:
            coats.append(good)
            soonest = good + lacquer.a
    return coats


def good_hours(lacquer, climate, lengths):
    """The ascending list of the hours at good places, for runs and spells of these lengths in turn from hour 1 on.

    No spell follows the run with which they end.
    """
    hours = []
    start = 1
    for run, spell in zip(lengths[::2], lengths[1::2]):
        hours.extend([start + place - 1 for place in good_places(lacquer, climate, run)])
        start = start + run + spell
    return hours + list(range(start, sum(lengths) + 1))


def _suffices(lacquer, damp, ahead):
    # From here on turns(ahead) coats can be laid before the spell, and each of them can last b hours.
    return lacquer.turns(ahead) * lacquer.b >= ahead + damp


def _check_place(place, run):
    if not 1 <= place <= run <= MOST_LENGTH:
        raise BadNumber(f"a place is in a run of 1 to {MOST_LENGTH} hours")
