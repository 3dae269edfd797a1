"""Desks, which follow an hour-worker's work live."""

from dampspells.base.errors import BadWeather, Refused
from dampspells.lead.good import is_good
from dampspells.lead.verdict import sight_needed
from dampspells.play.hourly import LAY, MOST_SIGHT, WAIT, HourWeb
from dampspells.play.safety import check_worker
from dampspells.shop.deeds import first_work, is_lost, since_last, told_weather, work_after
from dampspells.sky.member import check_member
from dampspells.sky.weather import DAMP, DRY, Weather
from dampspells.web.stepset import StepSet

UNDO = ("undo",)
REDO = ("redo",)


class Desk:
    """The desk with this lacquer, climate and sight; at its start the signs of the hours 1 to sight + 2 are told."""

    def __init__(self, lacquer, climate, sight, signs):
        check_worker(lacquer.b, climate, sight, MOST_SIGHT)
        if len(signs) != sight + 2:
            raise BadWeather(f"{len(signs)} signs are not those of hour 2 and the hours that are seen ahead")
        check_member(climate, Weather.of_signs(signs))
        self._sight = sight
        self._work = first_work(lacquer, climate, signs)
        # Pairs of a deed and the work before it.
        self._past = []
        # Pairs of a deed that has been taken back and the work after it, the next one to do again at the end.
        self._taken_back = []

    @property
    def now(self):
        return self._work["now"]

    @property
    def coats(self):
        return self._work["coats"]

    @property
    def told(self):
        return self._work["told"]

    @property
    def heated(self):
        return self._work["heated"]

    @property
    def spoilt(self):
        return self._work["spoilt"]

    @property
    def deeds(self):
        return tuple([deed for deed, _ in self._past])

    def state(self):
        """The tuple (now, coats, told, heated, spoilt, numbers of the lacquer, kinds)."""
        lacquer = self._work["lacquer"]
        kinds = self._work["climate"].kinds
        return (self.now, self.coats, self.told, self.heated, self.spoilt, (lacquer.a, lacquer.b), kinds)

    def do(self, deed):
        """Does a deed; raises `Refused` if it is refused."""
        if deed == UNDO:
            self._undo()
        elif deed == REDO:
            self._redo()
        else:
            after = work_after(self._work, deed)
            self._past.append((deed, self._work))
            self._taken_back = []
            self._work = after

    def attempt(self, deeds):
        """Does the deeds in turn, or none of them if one is refused."""
        work, past, taken_back = self._work, list(self._past), list(self._taken_back)
        for deed in deeds:
            try:
                self.do(deed)
            except Refused:
                self._work, self._past, self._taken_back = work, past, taken_back
                raise

    def choices(self):
        """The list of the choices in the present hour after which the work need never be spoilt."""
        if self.spoilt is not None:
            return []
        web = HourWeb(StepSet.of(self._work["lacquer"]), self._work["climate"], self._sight)
        return web.choices_at(told_weather(self._work), self.coats[-1], self.heated)

    def status(self):
        """`spoilt`, `lost`, `sure` or `open`."""
        if self.spoilt is not None:
            return "spoilt"
        if is_lost(self._work):
            return "lost"
        return "sure" if self.choices() else "open"

    def advice(self):
        """`lay` or `wait`, by the rule; None if the work is spoilt or the rule is of no use."""
        needed = sight_needed(self._work["lacquer"], self._work["climate"])
        if self.spoilt is not None or needed is None or self._sight < needed:
            return None
        return LAY if _rule_lays(self._work) else WAIT

    def _undo(self):
        if not self._past:
            raise Refused("nothing")
        deed, before = self._past.pop()
        self._taken_back.append((deed, self._work))
        self._work = before

    def _redo(self):
        if not self._taken_back:
            raise Refused("nothing")
        deed, after = self._taken_back.pop()
        self._past.append((deed, self._work))
        self._work = after


def replayed(lacquer, climate, sight, signs, deeds):
    """A new desk that has done the deeds."""
    desk = Desk(lacquer, climate, sight, signs)
    for deed in deeds:
        desk.do(deed)
    return desk


def _rule_lays(work):
    """True if the present hour is dry, not too early for a coat, and at a good place of its run, otherwise False."""
    now, told = work["now"], work["told"]
    if told[now - 1] != DRY or since_last(work) < work["lacquer"].a:
        return False
    spell = told.find(DAMP, now)
    if spell < 0:
        return True
    # Hour h has the index h - 1; the last damp hour before the run has an index of at least 0, or there is none.
    run = spell - 1 - told.rfind(DAMP, 0, now)
    return is_good(work["lacquer"], work["climate"], run, spell + 1 - now)
