"""Whether the work can be kept up, and how far ahead one must see."""

from dampspells.base.errors import Unsound
from dampspells.sky.kinds import check_kind

LONG = "long"
CLOSE = "close"


def is_sound_kind(lacquer, w, g):
    """True if the kind is sound for the lacquer, otherwise False."""
    return w < lacquer.b and g > lacquer.lead(w)


def lead_of(lacquer, climate):
    """The lead of the climate, whether it is sound or not."""
    return max([lacquer.lead(w) for w, g in climate], default=0)


def bad_kinds(lacquer, climate):
    """The triples (w, g, word) of the bad kinds of the plain list, in its order."""
    return [(w, g, _fault(lacquer, w)) for w, g in climate if not is_sound_kind(lacquer, w, g)]


def _fault(lacquer, w):
    if w >= lacquer.b:
        return LONG
    return CLOSE


def is_sound(lacquer, climate):
    """True if the climate is sound for the lacquer, otherwise False."""
    return not bad_kinds(lacquer, climate)


def check_sound(lacquer, climate):
    """Raises `Unsound` if the climate is not sound for the lacquer."""
    bad = bad_kinds(lacquer, climate)
    if bad:
        w, g, _ = bad[0]
        raise Unsound((w, g))


def sight_needed(lacquer, climate):
    """The least sight with which an hour-worker is sure, or None."""
    if not is_sound(lacquer, climate):
        return None
    return lead_of(lacquer, climate)


def kind_booking(lacquer, w, g):
    """The booking number of the kind, or None if it is bad."""
    check_kind(w, g)
    if not is_sound_kind(lacquer, w, g):
        return None
    counting = []
    if w <= lacquer.slack:
        counting.append(lacquer.a + w)
    if g > lacquer.a:
        counting.append(max(w + 1, max(2, lacquer.spans(w)) * lacquer.a))
    return min(counting)


def booking_needed(lacquer, climate):
    """The least sight with which a booker is sure, or None."""
    if not is_sound(lacquer, climate):
        return None
    return max([lacquer.a] + [kind_booking(lacquer, w, g) for w, g in climate])
