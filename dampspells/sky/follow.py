"""How the sky goes on, hour by hour.

A sky is ("dry", k) after k dry hours of a run, with k at most 1 or the need of the climate, and ("damp", k) after a
damp hour if the climate lets its spell go on for k more hours.
"""

from dampspells.sky.weather import DAMP, DRY

DRY_WORD = "dry"
DAMP_WORD = "damp"
FIRST_SKY = ("dry", 1)


def next_sky(climate, sky, sign):
    """The sky after one more hour with this sign, or None if the climate lets no damp hour follow."""
    word, many = sky
    if sign == DRY:
        before = many if word == DRY_WORD else 0
        return (DRY_WORD, min(before + 1, max(1, climate.need)))
    left = climate.longest(many) if word == DRY_WORD else many
    if left == 0:
        return None
    return (DAMP_WORD, left - 1)
