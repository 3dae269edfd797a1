"""The worlds that fit a diary."""

from dampspells.base.errors import BadHour, BadNumber, NoWorld
from dampspells.half.diary import Diary
from dampspells.half.marks import COAT, LETTERS, mark_of
from dampspells.half.paths import Paths
from dampspells.web.closed import LISTED_NEED, LISTED_PEAK
from dampspells.web.sizes import check_climate


def world_count(diary, lacquer, climate):
    """The number of the worlds that fit."""
    return _all_paths(diary, lacquer, climate).many


def worlds(diary, lacquer, climate):
    """Yields the worlds that fit, in their order."""
    paths = _all_paths(diary, lacquer, climate)
    pending = [(COAT, paths.start)]
    while pending:
        text, state = pending.pop()
        if len(text) == diary.size:
            yield text
        else:
            # The last one is taken first.
            for letter, after in reversed(paths.moves_on(len(text), state)):
                pending.append((text + letter, after))


def world_at(diary, lacquer, climate, place):
    """The world with this place among those that fit."""
    paths = _some_paths(diary, lacquer, climate)
    if not 0 <= place < paths.many:
        raise BadNumber(f"there is no world with the place {place}")
    return paths.text_at(place)


def letters_at(diary, lacquer, climate, hour):
    """The list of the letters of the hour."""
    paths = _some_paths(diary, lacquer, climate)
    _check_hour(diary, hour)
    return paths.letters_of(hour)


def parting_worlds(diary, lacquer, climate, hour):
    """The pair of the first worlds with the first and with the second letter of the hour, or None."""
    letters = letters_at(diary, lacquer, climate, hour)
    if len(letters) < 2:
        return None
    one, other = [Diary(diary.marks[:hour - 1] + letter + diary.marks[hour:]) for letter in letters[:2]]
    return (world_at(one, lacquer, climate, 0), world_at(other, lacquer, climate, 0))


def sharpest(diary, lacquer, climate):
    """The diary that allows exactly the letters of each hour."""
    paths = _some_paths(diary, lacquer, climate)
    return Diary("".join([mark_of(paths.letters_of(hour)) for hour in range(1, diary.size + 1)]))


def coats_until(diary, lacquer, climate, hour):
    """The pair of the least and the greatest number of coats after coat 0 and up to the hour."""
    paths = _some_paths(diary, lacquer, climate)
    _check_hour(diary, hour)
    return paths.coats_by(hour)


def _all_paths(diary, lacquer, climate):
    check_climate(climate, LISTED_NEED, LISTED_PEAK)
    return Paths(diary, lacquer, climate)


def _some_paths(diary, lacquer, climate):
    paths = _all_paths(diary, lacquer, climate)
    if paths.many == 0:
        raise NoWorld("no world fits the diary")
    return paths


def _check_hour(diary, hour):
    if not 1 <= hour <= diary.size:
        raise BadHour(f"the diary has no hour {hour}")
