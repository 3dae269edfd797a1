"""Bookers, who name the hour of the next coat whenever they lay one."""

from dampspells.base.errors import BadNumber
from dampspells.base.lacquer import Lacquer
from dampspells.lead.verdict import booking_needed, check_sound
from dampspells.play.safety import check_worker, lost_stands
from dampspells.sky.follow import FIRST_SKY, all_skies, all_texts, following, next_skies
from dampspells.sky.weather import DRY
from dampspells.told.rule import rule_row

MOST_SIGHT = 7


def sure_booking(steps, climate, sight):
    """True if a booker with this sight is sure, otherwise False."""
    check_worker(steps.farthest, climate, sight, MOST_SIGHT)
    lost = lost_stands(_moves(steps, climate, sight))
    firsts = [_bookings(steps, ahead, sky) for ahead, sky in following(climate, FIRST_SKY, sight)]
    return all([any([stand not in lost for stand in stands]) for stands in firsts])


def booked_row(lacquer, climate, sight, weather):
    """The hours that a sure booker names in turn, from hour 1 on."""
    check_sound(lacquer, climate)
    if sight <= lacquer.a or sight < booking_needed(lacquer, climate):
        raise BadNumber(f"a booker with the sight {sight} is not sure, or has no choice")
    return rule_row(Lacquer(lacquer.a, min(lacquer.b, sight)), climate, weather)


def _moves(steps, climate, sight):
    """For each stand and each sign of one more hour, the stands after what the booker can name in the next hour.

    A stand is a triple (left, ahead, sky) after an hour: the number of hours until the coat that has been named, the
    signs of the hours that are seen ahead, and the sky after them.
    """
    texts = all_texts(sight)
    moves = {}
    for sky in all_skies(climate):
        pairs = next_skies(climate, sky)
        for left in range(1, min(steps.farthest, sight) + 1):
            for ahead in texts:
                seen = [(ahead[1:] + sign, after) for sign, after in pairs]
                moves[(left, ahead, sky)] = [_stands_after(steps, left - 1, text, after) for text, after in seen]
    return moves


def _stands_after(steps, left, ahead, sky):
    if left > 0:
        return [(left, ahead, sky)]
    return _bookings(steps, ahead, sky)


def _bookings(steps, ahead, sky):
    """The stands after an hour with a coat, one for each hour that the booker can name."""
    return [(step, ahead, sky) for step in steps if step <= len(ahead) and ahead[step - 1] == DRY]
