"""Greatest climates: each one lies above all climates of which something holds."""

from dampspells.base.ratio import Ratio
from dampspells.base.whole import ceil_div
from dampspells.lead.sight import check_sight
from dampspells.lead.verdict import kind_booking
from dampspells.sky.climate import Climate
from dampspells.sky.kinds import MOST_RUN


def greatest(lacquer):
    """The greatest sound climate."""
    return Climate(_top_kinds(lacquer))


def greatest_seen(lacquer, sight):
    """The greatest sound climate with a lead of at most the sight."""
    check_sight(sight)
    return Climate(_top_kinds(lacquer)[:sight // lacquer.a + 1])


def greatest_booked(lacquer, sight):
    """The greatest sound climate whose kinds have booking numbers of at most the sight, or None."""
    check_sight(sight)
    if sight < lacquer.a:
        return None
    kinds = []
    for w in range(1, lacquer.b):
        # A kind is sound from the first of these runs on, and its booking number falls only at the second one.
        for g in (lacquer.lead(w) + 1, max(lacquer.lead(w), lacquer.a) + 1):
            if kind_booking(lacquer, w, g) <= sight:
                kinds.append((w, g))
    return Climate(kinds)


def greatest_paced(lacquer, pace):
    """The greatest sound climate whose pace is at most this fraction, or None."""
    delay = pace - Ratio(lacquer.a)
    if delay.top < 0:
        return None
    if delay.top == 0:
        return Climate.dry()
    kinds = []
    for w in range(1, lacquer.b):
        turns = ceil_div(w * delay.bottom, delay.top)
        # So many turns begin one hour after the last multiple of a.
        g = max(lacquer.lead(w), (turns - 1) * lacquer.a) + 1
        if g <= MOST_RUN:
            kinds.append((w, g))
    return Climate(kinds)


def _top_kinds(lacquer):
    longest = lacquer.b - 1
    many = lacquer.spans(longest)
    return [(min(longest, j * lacquer.slack), (j - 1) * lacquer.a + 1) for j in range(1, many + 1)]
