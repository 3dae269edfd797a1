"""Weathers that go on for ever."""

from dampspells.base.errors import BadHour, BadWeather
from dampspells.sky.follow import FIRST_SKY, next_sky
from dampspells.sky.weather import DAMP, DRY, MOST_HOURS, Weather

MOST_SIGNS = 60


class LongWeather:
    """The hours of the beginning, then those of the round again and again; both are texts of signs."""

    def __init__(self, beginning, again):
        _check_signs(beginning)
        _check_signs(again)
        if beginning[0] != DRY:
            raise BadWeather("the first hour is damp")
        self.beginning = beginning
        self.again = again

    def is_dry(self, hour):
        """True if the hour is dry, otherwise False."""
        if hour < 1:
            raise BadHour("hours are numbered from 1")
        if hour <= len(self.beginning):
            return self.beginning[hour - 1] == DRY
        return self.again[(hour - 1 - len(self.beginning)) % len(self.again)] == DRY

    def first(self, n):
        """The weather of the first n hours."""
        if not 1 <= n <= MOST_HOURS:
            raise BadHour(f"a weather has 1 to {MOST_HOURS} hours")
        rounds = n // len(self.again) + 1
        return Weather.of_signs((self.beginning + self.again * rounds)[:n])

    def breach(self, climate):
        """The least n for which the first n hours are not of the climate, or None."""
        sky, hour = _walked(climate, FIRST_SKY, 1, self.beginning[1:])
        seen = {}
        # What a round leads to depends on the sky before it alone.
        while sky is not None and sky not in seen:
            seen[sky] = True
            sky, hour = _walked(climate, sky, hour, self.again)
        return hour if sky is None else None


def _walked(climate, sky, hour, signs):
    """The sky and the hour after these further signs; None and the first hour whose sign cannot follow."""
    for sign in signs:
        hour = hour + 1
        sky = next_sky(climate, sky, sign)
        if sky is None:
            break
    return (sky, hour)


def _check_signs(signs):
    if not 1 <= len(signs) <= MOST_SIGNS or signs.count(DRY) + signs.count(DAMP) != len(signs):
        raise BadWeather(f"1 to {MOST_SIGNS} signs are dry or damp")
