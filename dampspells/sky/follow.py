"""How the sky goes on, hour by hour.

A sky is ("dry", k) after k dry hours of a run, with k at most 1 or the need of the climate, and ("damp", k) after a
damp hour if the climate lets its spell go on for k more hours.
"""

from dampspells.sky.weather import DAMP, DRY

DRY_WORD = "dry"
DAMP_WORD = "damp"
FIRST_SKY = ("dry", 1)


def next_sky(climate, sky, sign):
    """The sky after one more hour with this sign, or None if the climate lets no damp hour follow."""
    word, many = sky
    if sign == DRY:
        before = many if word == DRY_WORD else 0
        return (DRY_WORD, min(before + 1, max(1, climate.need)))
    left = climate.longest(many) if word == DRY_WORD else many
    if left == 0:
        return None
    return (DAMP_WORD, left - 1)


def next_skies(climate, sky):
    """The pairs of each sign that can follow and the sky after it."""
    pairs = [(sign, next_sky(climate, sky, sign)) for sign in (DRY, DAMP)]
    return [(sign, after) for sign, after in pairs if after is not None]


def following(climate, sky, many):
    """The pairs of each text of so many signs that can follow and the sky after it, in the order of the texts."""
    found = [("", sky)]
    for _ in range(many):
        found = [(text + sign, after) for text, before in found for sign, after in next_skies(climate, before)]
    return found


def sky_after(climate, weather):
    """The sky after the last told hour of a weather of the climate."""
    sky = FIRST_SKY
    for sign in weather.signs()[1:]:
        sky = next_sky(climate, sky, sign)
    return sky


def all_skies(climate):
    """The list of all skies."""
    dry = [(DRY_WORD, many) for many in range(1, max(1, climate.need) + 1)]
    return dry + [(DAMP_WORD, left) for left in range(climate.peak)]


def all_texts(many):
    """The list of all texts of so many signs, in their order."""
    texts = [""]
    for _ in range(many):
        texts = [text + sign for text in texts for sign in (DRY, DAMP)]
    return texts
