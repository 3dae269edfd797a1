"""The weathers of a climate in their order."""

from dampspells.base.errors import BadNumber
from dampspells.far.onward import check_hours, counts_onward
from dampspells.sky.follow import FIRST_SKY, next_skies, next_sky
from dampspells.sky.member import check_member
from dampspells.sky.weather import DAMP, DRY, Weather


def all_weathers(climate, n):
    """Yields the signs of the weathers of n hours in their order."""
    check_hours(n)
    pending = [(DRY, FIRST_SKY)]
    while pending:
        signs, sky = pending.pop()
        if len(signs) == n:
            yield signs
        else:
            # The last one is taken first.
            for sign, after in reversed(next_skies(climate, sky)):
                pending.append((signs + sign, after))


def weather_at(climate, n, place):
    """The weather of n hours with this place."""
    check_hours(n)
    counts = counts_onward(climate, n - 1)
    if not 0 <= place < counts[0][FIRST_SKY]:
        raise BadNumber(f"there is no weather with the place {place}")
    signs = DRY
    sky = FIRST_SKY
    left = place
    for many in counts[1:]:
        dry = next_sky(climate, sky, DRY)
        if left < many[dry]:
            signs = signs + DRY
            sky = dry
        else:
            left = left - many[dry]
            signs = signs + DAMP
            sky = next_sky(climate, sky, DAMP)
    return Weather.of_signs(signs)


def weather_place(climate, weather):
    """The place of the weather."""
    check_member(climate, weather)
    place = 0
    sky = FIRST_SKY
    counts = counts_onward(climate, weather.hours - 1)
    for sign, many in zip(weather.signs()[1:], counts[1:]):
        if sign == DAMP:
            place = place + many[next_sky(climate, sky, DRY)]
        sky = next_sky(climate, sky, sign)
    return place
