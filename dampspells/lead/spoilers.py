"""What spoils the work."""

from dampspells.lead.verdict import is_sound, is_sound_kind
from dampspells.sky.kinds import check_kind
from dampspells.sky.weather import Weather


def spoiler(lacquer, w, g):
    """The spoiler of the kind, or None if it is sound."""
    check_kind(w, g)
    if is_sound_kind(lacquer, w, g):
        return None
    if w >= lacquer.b:
        return Weather([g, lacquer.b])
    turns = lacquer.turns(g)
    return Weather([turns * lacquer.a, turns * lacquer.slack + 1])


def least_spoiler(lacquer, climate):
    """The least spoiler, or None if the climate is sound."""
    if is_sound(lacquer, climate):
        return None
    # Beyond the last multiple of a here the same spells are allowed, and it takes longer ones to spoil the work.
    lengths = range(climate.need + lacquer.a - 1, 0, -1)
    pairs = [(run, _spoiling_spell(lacquer, run)) for run in lengths]
    # The first one with the fewest hours has the longest run: its signs come first.
    return Weather(min([(run, spell) for run, spell in pairs if spell <= climate.longest(run)], key=sum))


def _spoiling_spell(lacquer, run):
    """The least number of damp hours that spoil the work after a run from hour 1."""
    return min(lacquer.b, lacquer.turns(run) * lacquer.b + 1 - run)
