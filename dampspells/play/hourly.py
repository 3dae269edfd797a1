"""Hour-workers, who choose in each hour whether they lay a coat."""

from dampspells.base.errors import BadHour
from dampspells.play.safety import check_worker, lost_stands
from dampspells.sky.follow import FIRST_SKY, all_skies, all_texts, following, next_skies, sky_after
from dampspells.sky.member import check_member
from dampspells.sky.warm import warmed_signs
from dampspells.sky.weather import DRY

MOST_SIGHT = 5
LAY = "lay"
WAIT = "wait"


class HourWeb:
    """All that an hour-worker with this sight can reach.

    A stand is a triple (age, ahead, sky) after the choice in an hour: the number of hours since the last coat, the
    text of the hours that are seen ahead, in which a coat may be laid if the sign is dry, and the sky after them.
    """

    def __init__(self, steps, climate, sight):
        check_worker(steps.farthest, climate, sight, MOST_SIGHT)
        self.steps = steps
        self.climate = climate
        self.sight = sight
        self._lost = lost_stands(_moves(steps, climate, sight))
        starts = [(0, ahead, sky) for ahead, sky in following(climate, FIRST_SKY, sight)]
        self._sure = all([stand not in self._lost for stand in starts])

    @property
    def sure(self):
        return self._sure

    def choices_at(self, weather, last, heated=()):
        """The list of the choices in the present hour after which the work need never be spoilt."""
        check_member(self.climate, weather)
        now = weather.hours - self.sight
        if not 1 <= last < now:
            raise BadHour(f"the last coat before hour {now} was not laid in hour {last}")
        signs = warmed_signs(weather.signs(), heated)[now - 1:]
        options = _options(self.steps, now - last, signs, sky_after(self.climate, weather))
        return [word for word, stand in options if stand not in self._lost]


def sure_hourly(steps, climate, sight):
    """True if an hour-worker with this sight is sure, otherwise False."""
    return HourWeb(steps, climate, sight).sure


def least_sight(steps, climate, most):
    """The least sight of at most `most` with which an hour-worker is sure, or None."""
    check_worker(steps.farthest, climate, most, MOST_SIGHT)
    for sight in range(most + 1):
        if sure_hourly(steps, climate, sight):
            return sight
    return None


def _moves(steps, climate, sight):
    """For each stand and each sign of one more hour, the stands after the choices in the next hour."""
    texts = all_texts(sight)
    moves = {}
    for sky in all_skies(climate):
        pairs = next_skies(climate, sky)
        for age in range(steps.farthest):
            for ahead in texts:
                options = [_options(steps, age + 1, ahead + sign, after) for sign, after in pairs]
                moves[(age, ahead, sky)] = [[stand for _, stand in row] for row in options]
    return moves


def _options(steps, age, signs, sky):
    """The pairs of each choice in an hour and the stand after it.

    The last coat was laid `age` hours before, the first of the signs is that of this hour.
    """
    options = []
    if age in steps and signs[0] == DRY:
        options.append((LAY, (0, signs[1:], sky)))
    if age < steps.farthest:
        options.append((WAIT, (age, signs[1:], sky)))
    return options
