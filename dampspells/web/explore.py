"""Goes through all stands that can come up, hour by hour.

A web has two methods. `starts()` is the list of the pairs of a text of signs and the stand after it; the texts are in
their order and equally long. `after(stand, sign)` is the stand after one more hour, None if the sign cannot follow, or
`END` where the search ends.
"""

from dampspells.sky.follow import FIRST_SKY, next_sky
from dampspells.sky.weather import DAMP, DRY

END = "end"


class SkyWeb:
    """The skies of a climate; there is no end."""

    def __init__(self, climate):
        self.climate = climate

    def starts(self):
        return [(DRY, FIRST_SKY)]

    def after(self, stand, sign):
        return next_sky(self.climate, stand, sign)


def explore(web):
    """A pair: the list of all stands in the order in which they come up, and None; or None, and the text to the end.

    The text is the shortest one that leads to the end, and of several the first one.
    """
    starts = web.starts()
    stands = [stand for _, stand in starts]
    texts = {stand: text for text, stand in starts}
    at = 0
    while at < len(stands):
        stand = stands[at]
        for sign in (DRY, DAMP):
            after = web.after(stand, sign)
            if after == END:
                return (None, texts[stand] + sign)
            if after is not None and after not in texts:
                texts[after] = texts[stand] + sign
                stands.append(after)
        at = at + 1
    return (stands, None)


def count_texts(web, further):
    """The number of the texts with so many signs more than those of the starts that do not lead to the end."""
    later = {}
    counts = {stand: 1 for _, stand in web.starts()}
    for _ in range(further):
        for stand in counts:
            if stand not in later:
                later[stand] = _stands_after(web, stand)
        counts = _one_sign_more(later, counts)
    return sum(counts.values())


def _stands_after(web, stand):
    """The stands after one more hour from which the texts go on."""
    stands = [web.after(stand, sign) for sign in (DRY, DAMP)]
    return [after for after in stands if after is not None and after != END]


def _one_sign_more(later, counts):
    more = {}
    for stand, many in counts.items():
        for after in later[stand]:
            more[after] = more.get(after, 0) + many
    return more
