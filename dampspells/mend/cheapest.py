"""The cheapest change of the numbers of a lacquer and a climate that makes the work sound."""

from dampspells.base.lacquer import Lacquer
from dampspells.mend.least import least_run
from dampspells.mend.prices import check_prices


def cheapest(lacquer, climate, *, price_a=1, price_b=1, price_w=1, price_g=1):
    """The cheapest change, a tuple (cost, a, b, kinds)."""
    check_prices([price_a, price_b, price_w, price_g])
    best = None
    # The greatest a comes first, and then the least b: only a lower cost is better than what came before.
    for a in range(lacquer.a, 0, -1):
        for b in range(lacquer.b, Lacquer.MOST + 1):
            changed = [_changed_kind(Lacquer(a, b), kind, price_w, price_g) for kind in climate]
            cost = (lacquer.a - a) * price_a + (b - lacquer.b) * price_b + sum([part for part, _ in changed])
            if best is None or cost < best[0]:
                best = (cost, a, b, [kind for _, kind in changed])
    return best


def _changed_kind(lacquer, kind, price_w, price_g):
    """The pair of the least cost of a change of the kind that makes it sound, and the kind after this change."""
    w, g = kind
    best = None
    # No kind has to be removed: spells of one hour are sound for each lacquer.
    for spell in range(min(w, lacquer.b - 1), 0, -1):
        run = max(g, least_run(lacquer, spell))
        cost = (w - spell) * price_w + (run - g) * price_g
        if best is None or cost < best[0]:
            best = (cost, (spell, run))
    return best
