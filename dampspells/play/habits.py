"""Habits: rows that tell when a coat is laid."""

from dampspells.base.errors import BadHabit, TooLarge
from dampspells.lead.verdict import check_sound, lead_of
from dampspells.sky.weather import DAMP, DRY
from dampspells.web.sizes import check_small

MOST_SIGHT = 5
MOST_ROWS = 40
MOST_AGE = 8
MOST_DRY = 8
ANY = "?"
MARKS = (".", "#", "?")


class Habit:
    """The habit with this sight and these rows (age, dry, ahead, lay)."""

    def __init__(self, sight, rows):
        if not 0 <= sight <= MOST_SIGHT or len(rows) > MOST_ROWS:
            raise BadHabit(f"a habit has a sight of 0 to {MOST_SIGHT} and at most {MOST_ROWS} rows")
        if not all([_is_row(row, sight) for row in rows]):
            raise BadHabit("a row is not that of a habit")
        self.sight = sight
        self.rows = tuple(rows)

    def __call__(self, age, dry, ahead):
        """True if a coat is laid, otherwise False."""
        for row_age, row_dry, text, lay in self.rows:
            if row_age in (0, age) and row_dry <= dry and _matches(text, ahead):
                return lay
        return True

    @staticmethod
    def eager(sight):
        """The habit without rows."""
        return Habit(sight, [])


def rule_habit(lacquer, climate):
    """The rule as a habit."""
    check_sound(lacquer, climate)
    check_small(lacquer.b, climate)
    lead = lead_of(lacquer, climate)
    if lead > MOST_SIGHT:
        raise TooLarge(f"the lead is greater than {MOST_SIGHT}")
    rows = []
    for ahead in range(1, lead + 1):
        # Spells of more hours than this spoil the work after a coat so far ahead of them.
        most = lacquer.turns(ahead) * lacquer.b - ahead
        run = climate.least_run(most + 1)
        if run is not None:
            text = DRY * (ahead - 1) + DAMP + ANY * (lead - ahead)
            rows.append((0, max(1, run - ahead + 1), text, False))
    return Habit(lead, rows)


def _is_row(row, sight):
    if len(row) != 4:
        return False
    age, dry, ahead, lay = row
    marks = len(ahead) == sight and all([mark in MARKS for mark in ahead])
    return 0 <= age <= MOST_AGE and 1 <= dry <= MOST_DRY and marks and (lay is True or lay is False)


def _matches(text, signs):
    return all([mark in (ANY, sign) for mark, sign in zip(text, signs)])
