"""The trap for everybody whose sight is less than the lead."""

from dampspells.lead.verdict import check_sound, lead_of
from dampspells.play.hours import played
from dampspells.sky.weather import DAMP, DRY


def trap(lacquer, climate, sight):
    """The triple (w, g, lead) of the trap for this sight, or None."""
    check_sound(lacquer, climate)
    lead = lead_of(lacquer, climate)
    if sight >= lead:
        return None
    w, g = [kind for kind in climate if lacquer.lead(kind[0]) == lead][0]
    return (w, g, lead)


def trap_weather(habit, lacquer, climate):
    """The signs of the trap's weather against this habit, up to what it sees when its work is spoilt, or None."""
    found = trap(lacquer, climate, habit.sight)
    if found is None:
        return None
    w, g, lead = found
    # Until the hour g + b - 1 the habit lays a coat in hour g or later, or its work is spoilt.
    coats, spoilt = played(habit, lacquer, lacquer.b, DRY * (g + lacquer.b + habit.sight))
    caught = [hour for hour in coats if hour >= g]
    if not caught:
        return DRY * (spoilt + habit.sight)
    signs = DRY * (caught[0] + lead - 1) + DAMP * w + DRY * habit.sight
    _, spoilt = played(habit, lacquer, lacquer.b, signs)
    return signs[:spoilt + habit.sight]
