"""By which hour each coat is sure."""

from dampspells.base.errors import BadNumber, TooLarge
from dampspells.base.ratio import Ratio
from dampspells.lead.verdict import check_sound
from dampspells.sky.weather import MOST_HOURS, Weather

MOST_COATS = 400
MOST_HOUR = 400


def pace(lacquer, climate):
    """The pace of the climate, a fraction."""
    check_sound(lacquer, climate)
    greatest = Ratio(0)
    for w, g in climate:
        delay = Ratio(w, lacquer.turns(g))
        if delay.compare(greatest) > 0:
            greatest = delay
    return Ratio(lacquer.a) + greatest


def loss(lacquer, climate, n):
    """The loss of n coats."""
    check_sound(lacquer, climate)
    check_coat(n)
    return losses(lacquer, climate, n)[n]


def sure_by(lacquer, climate, n):
    """The hour by which coat n is sure."""
    return 1 + n * lacquer.a + loss(lacquer, climate, n)


def coats_sure(lacquer, climate, hour):
    """The greatest n such that coat n is sure by this hour."""
    check_sound(lacquer, climate)
    if not 1 <= hour <= MOST_HOUR:
        raise BadNumber(f"an hour is 1 to {MOST_HOUR} here")
    # Without any loss there are so many coats.
    late = losses(lacquer, climate, (hour - 1) // lacquer.a)
    return max([n for n, lost in enumerate(late) if 1 + n * lacquer.a + lost <= hour])


def worst(lacquer, climate, n):
    """The worst weather for coat n."""
    check_sound(lacquer, climate)
    check_coat(n)
    sums = _greatest_sums(lacquer, climate, n)
    values = _values(lacquer, climate, sums, n)
    q = n + values.index(max(values))
    lengths = []
    left = q
    for w, turns in _items(lacquer, climate, sums, q):
        lengths.extend([turns * lacquer.a, w])
        left = left - turns
    lengths.append(left * lacquer.a + 1)
    if sum(lengths) > MOST_HOURS:
        raise TooLarge(f"the worst weather has more than {MOST_HOURS} hours")
    return Weather(lengths)


def check_coat(n):
    """Raises `BadNumber` if n is not the number of a coat that is asked about."""
    if not 0 <= n <= MOST_COATS:
        raise BadNumber(f"the number of a coat is 0 to {MOST_COATS} here")


def losses(lacquer, climate, most):
    """The losses of 0 to `most` coats, for a sound climate."""
    sums = _greatest_sums(lacquer, climate, most)
    return [max(_values(lacquer, climate, sums, n)) for n in range(most + 1)]


def _pieces(lacquer, climate):
    """(w, turns) of each kind of the plain list."""
    return [(w, lacquer.turns(g)) for w, g in climate]


def _greatest_sums(lacquer, climate, most):
    """K(0) up to the last K on which the loss of `most` coats can depend."""
    pieces = _pieces(lacquer, climate)
    sums = [0]
    for q in range(1, most + lacquer.turns(climate.need) + 1):
        sums.append(max([w + sums[q - turns] for w, turns in pieces if turns <= q], default=0))
    return sums


def _values(lacquer, climate, sums, n):
    """K(q) - (q - n) * slack for q = n, n + 1, ..

    No kind gains more than the slack for each of its turns. So a q that is greater than n by all turns of a kind
    is not better than q less these turns, and no q beyond that matters.
    """
    end = n + lacquer.turns(climate.need) + 1
    return [sums[q] - (q - n) * lacquer.slack for q in range(n, end)]


def _items(lacquer, climate, sums, q):
    """The items of q, as (w, turns)."""
    pieces = _pieces(lacquer, climate)
    items = []
    left = q
    while left > 0:
        if sums[left] == sums[left - 1]:
            left = left - 1
        else:
            fitting = [(w, turns) for w, turns in pieces if turns <= left and sums[left] == w + sums[left - turns]]
            items.append(fitting[0])
            left = left - fitting[0][1]
    return items
