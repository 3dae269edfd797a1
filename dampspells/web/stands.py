"""Stands: the sky after an hour, and how long ago the last coat can have been laid."""

from dampspells.sky.follow import FIRST_SKY, next_sky
from dampspells.sky.member import check_member
from dampspells.sky.weather import DRY


def first_stand():
    """The stand after hour 1."""
    return (FIRST_SKY, (0,))


def next_stand(steps, climate, stand, sign):
    """The stand after one more hour with this sign, or None if no damp hour can follow."""
    sky, ages = stand
    later = next_sky(climate, sky, sign)
    if later is None:
        return None
    grown = [age + 1 for age in ages]
    laid = [0] if sign == DRY and any([age in steps for age in grown]) else []
    return (later, tuple(laid + [age for age in grown if age < steps.farthest]))


def stand_after(steps, climate, weather):
    """The stand after the last told hour."""
    check_member(climate, weather)
    stand = first_stand()
    for sign in weather.signs()[1:]:
        stand = next_stand(steps, climate, stand, sign)
    return stand
