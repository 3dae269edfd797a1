"""What the lines of a script define and answer."""

from dampspells.base.errors import NoWorld, Spoilt, Strange, Unsound
from dampspells.base.lacquer import Lacquer
from dampspells.compare.closure import widest
from dampspells.compare.hardness import parting_lacquer
from dampspells.half.worlds import letters_at, sharpest, world_count
from dampspells.lead.loss import pace, sure_by
from dampspells.lead.spoilers import least_spoiler
from dampspells.lead.tops import greatest
from dampspells.lead.verdict import booking_needed, sight_needed
from dampspells.mend.cheapest import cheapest
from dampspells.sky.climate import Climate
from dampspells.sky.order import parting
from dampspells.told.keep import ways
from dampspells.told.rule import rule_row
from dampspells.told.span import earliest
from dampspells.web.closed import shortest_spoiler
from dampspells.web.culprits import culprits
from dampspells.words.writing import write_climate, write_lacquer, write_weather

NEVER = "never"
NONE = "none"
KEPT = "kept"


def _itself(value):
    return value


def _join(one, other):
    return one | other


def _meet(one, other):
    return one & other


def _top(lacquer):
    return greatest(lacquer)


def _wide(climate):
    return widest(climate)


def _lead(lacquer, climate):
    sight = sight_needed(lacquer, climate)
    return NEVER if sight is None else str(sight)


def _book(lacquer, climate):
    sight = booking_needed(lacquer, climate)
    return NEVER if sight is None else str(sight)


def _pace(lacquer, climate):
    try:
        return pace(lacquer, climate).text()
    except Unsound:
        return NEVER


def _sure(lacquer, climate, n):
    try:
        return str(sure_by(lacquer, climate, n))
    except Unsound:
        return NEVER


def _spoiler(lacquer, climate):
    weather = least_spoiler(lacquer, climate)
    return NONE if weather is None else write_weather(weather)


def _mend(lacquer, climate):
    cost, a, b, kinds = cheapest(lacquer, climate)
    # No kind is removed by a cheapest change.
    return f"{cost} {write_lacquer(Lacquer(a, b))} {write_climate(Climate(kinds))}"


def _rule(lacquer, climate, weather):
    try:
        return _hours(rule_row(lacquer, climate, weather))
    except Unsound:
        return NEVER
    except Strange as error:
        return f"strange {error.hour}"


def _row(lacquer, weather):
    try:
        return _hours(earliest(lacquer, weather))
    except Spoilt as error:
        return f"spoilt {error.hour}"


def _ways(lacquer, weather):
    return str(ways(lacquer, weather))


def _part(one, other):
    weather = parting(one, other)
    return NONE if weather is None else write_weather(weather)


def _alike(one, other):
    pair = parting_lacquer(one, other)
    if pair is None:
        return NONE
    a, b = pair
    return write_lacquer(Lacquer(a, b))


def _kept(steps, climate):
    text = shortest_spoiler(steps, climate)
    return KEPT if text is None else text


def _blame(steps, climate):
    kinds = culprits(steps, climate)
    return KEPT if kinds is None else write_climate(Climate(kinds))


def _worlds(diary, lacquer, climate):
    return str(world_count(diary, lacquer, climate))


def _sharp(diary, lacquer, climate):
    try:
        return sharpest(diary, lacquer, climate).marks
    except NoWorld:
        return NONE


def _letters(diary, lacquer, climate, hour):
    try:
        return "".join(letters_at(diary, lacquer, climate, hour))
    except NoWorld:
        return NONE


def _hours(row):
    return " ".join([str(hour) for hour in row])


ACTIONS = {
    "lacquer": _itself,
    "climate": _itself,
    "weather": _itself,
    "steps": _itself,
    "diary": _itself,
    "join": _join,
    "meet": _meet,
    "top": _top,
    "wide": _wide,
    "ask lead": _lead,
    "ask book": _book,
    "ask pace": _pace,
    "ask sure": _sure,
    "ask spoiler": _spoiler,
    "ask mend": _mend,
    "ask rule": _rule,
    "ask row": _row,
    "ask ways": _ways,
    "ask part": _part,
    "ask alike": _alike,
    "ask kept": _kept,
    "ask blame": _blame,
    "ask worlds": _worlds,
    "ask sharp": _sharp,
    "ask letters": _letters,
}


def result(command, values):
    """What the command makes of the values: the object of a definition, or the answer to a question, a text."""
    action = ACTIONS[command]
    return action(*values)
