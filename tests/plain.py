"""Slow, plain counts, straight from the words of the document; the tests compare the program with them."""

from functools import lru_cache
from itertools import product
from random import Random
import re


MARKS = {"c": "c", ".": ".", "#": "#", "o": "c.", "-": ".#", "x": "c#", "?": "c.#"}


def all_signs(hours):
    """The signs of all weathers of so many hours, in their order."""
    return ["." + "".join(rest) for rest in product(".#", repeat=hours - 1)]


def signs_up_to(hours):
    return [signs for n in range(1, hours + 1) for signs in all_signs(n)]


def spells(signs):
    """(length of the run, length of the spell) of each spell."""
    return [(len(run), len(spell)) for run, spell in re.findall(r"(\.+)(#+)", signs)]


def most_damp(kinds, run):
    """W(run)."""
    fitting = [w for w, g in kinds if g <= run]
    return max(fitting) if fitting else 0


def is_of(kinds, signs):
    return all(spell <= most_damp(kinds, run) for run, spell in spells(signs))


def signs_of(kinds, hours):
    return [signs for signs in all_signs(hours) if is_of(kinds, signs)]


def dry_hours(signs):
    return [at + 1 for at, sign in enumerate(signs) if sign == "."]


def rows(a, b, signs):
    """All rows of coats, from the shortest on."""
    return step_rows(range(a, b + 1), signs)


def step_rows(steps, signs):
    found = [[1]]
    for row in found:
        found.extend(row + [hour] for hour in dry_hours(signs) if hour - row[-1] in steps)
    return found


def keepings(a, b, signs):
    return [row for row in rows(a, b, signs) if row[-1] + b > len(signs)]


def is_spoilt(a, b, signs):
    return not keepings(a, b, signs)


def last_reached(a, b, signs):
    """The greatest hour of a row of coats, without listing the rows."""
    return max(reached_by(range(a, b + 1), signs))


def reached_by(steps, signs):
    """The hours of the rows of coats, without listing the rows."""
    seen = {1}
    for hour in dry_hours(signs):
        if any(hour - step in seen for step in steps):
            seen.add(hour)
    return sorted(seen)


def spoils_steps(steps, signs):
    """Point [23]: no row of coats is a keeping."""
    return max(reached_by(steps, signs)) + max(steps) <= len(signs)


def some_steps(seed, times, most):
    """Step sets, the same ones in each run of the tests."""
    dice = Random(seed)
    return [sorted(dice.sample(range(1, most + 1), dice.randint(1, most))) for _ in range(times)]


def in_their_order(keeping_rows):
    """Point [19]: a row that has ended comes after one that goes on."""
    return sorted(keeping_rows, key=lambda row: [*row, 1000])


def lacquer_pairs(most):
    return [(a, b) for a in range(1, most) for b in range(a + 1, most + 1)]


def is_sound_pair(a, b, w, g):
    """Point [10]: the kind (w, g) is sound for the numbers a and b."""
    return w < b and g > (-(-w // (b - a)) - 1) * a


def some_kinds(seed, times, most_w, most_g, most_kinds=4):
    """Lists of kinds, the same ones in each run of the tests, the empty one first."""
    dice = Random(seed)
    found = [[]]
    while len(found) < times:
        many = dice.randint(1, most_kinds)
        found.append([(dice.randint(1, most_w), dice.randint(1, most_g)) for _ in range(many)])
    return found


def need_of(kinds):
    """The greatest g among the kinds that are not needless beside a different one."""
    return max([g for w, g in kinds if not any((v, r) != (w, g) and v >= w and r <= g for v, r in kinds)], default=0)


def sky(kinds, signs):
    """Point [24]: the sky after the last hour."""
    if signs[-1] == ".":
        return ("dry", min(len(signs) - len(signs.rstrip(".")), max(1, need_of(kinds))))
    run, spell = spells(signs)[-1]
    return ("damp", most_damp(kinds, run) - spell)


def stand(steps, kinds, signs):
    """Point [24]: the stand after the last hour."""
    lasts = reached_by(steps, signs)
    return (sky(kinds, signs), tuple(x for x in range(max(steps)) if len(signs) - x in lasts))


def long_signs(beginning, again, hours):
    """The signs of the first hours of a long weather."""
    signs = beginning
    while len(signs) < hours:
        signs += again
    return signs[:hours]


def some_long(seed, times, most):
    """(beginning, round) of long weathers, the same ones in each run of the tests."""
    dice = Random(seed)

    def text(many):
        return "".join(dice.choice("..#") for _ in range(many))
    return [("." + text(dice.randint(0, most - 1)), text(dice.randint(1, most))) for _ in range(times)]


def texts_after(kinds, signs, many):
    """All texts of so many signs that the climate lets follow, in their order."""
    found = [""]
    for _ in range(many):
        found = [text + sign for text in found for sign in ".#" if is_of(kinds, signs + text + sign)]
    return found


def worker_goes_on(steps, kinds, known, sight, last, heated, until):
    """Point [30] by trying everything, as long as at most `until` hours are known.

    The present hour is the last known one minus the sight. Returns the list of the choices.
    """
    return list(_goes_on(tuple(steps), tuple(kinds), known, sight, last, tuple(heated), until))


@lru_cache(1_000_000)
def _goes_on(steps, kinds, known, sight, last, heated, until):
    now = len(known) - sight
    told = []
    if now - last in steps and (known[now - 1] == "." or now in heated):
        told.append(("lay", now))
    if now - last < max(steps):
        told.append(("wait", last))
    if len(known) >= until:
        return tuple(word for word, _ in told)
    # Hours that are heated do not matter any more when they have passed.
    heated = tuple(hour for hour in heated if hour > now)
    return tuple(word for word, coat in told
                 if all(_goes_on(steps, kinds, known + sign, sight, coat, heated, until)
                        for sign in _next_signs(kinds, known)))


@lru_cache(1_000_000)
def _next_signs(kinds, signs):
    return texts_after(kinds, signs, 1)


def forget():
    """Gives back what the searches have kept."""
    _goes_on.cache_clear()
    _next_signs.cache_clear()


def worker_is_sure(steps, kinds, sight, until):
    return all(worker_goes_on(steps, kinds, "." + text, sight, 1, (), until)
               for text in texts_after(kinds, ".", 1 + sight))


def booker_goes_on(steps, kinds, known, sight, until):
    """Point [29] by trying everything; the last coat was laid in the last known hour minus the sight."""
    now = len(known) - sight
    named = [step for step in steps if step <= sight and known[now + step - 1] == "."]
    if len(known) >= until:
        return bool(named)
    return any(all(booker_goes_on(steps, kinds, known + text, sight, until)
                   for text in texts_after(kinds, known, step)) for step in named)


def booker_is_sure(steps, kinds, sight, until):
    return all(booker_goes_on(steps, kinds, "." + text, sight, until) for text in texts_after(kinds, ".", sight))


def habit_says(sight, rows, age, dry, ahead):
    """Point [31], word for word."""
    for row_age, row_dry, text, lay in rows:
        if row_age in (0, age) and row_dry <= dry and re.fullmatch(re.escape(text).replace(r"\?", "."), ahead):
            return lay
    return True


def habit_plays(sight, rows, steps, signs):
    """Point [32]: the coats and the spoilt hour, or None."""
    coats = [1]
    for hour in range(2, len(signs) - sight + 1):
        age = hour - coats[-1]
        run = hour - 1 - signs.rfind("#", 0, hour)
        if signs[hour - 1] == "." and age in steps:
            if habit_says(sight, rows, age, run, signs[hour:hour + sight]):
                coats.append(hour)
        if coats[-1] != hour and age >= max(steps):
            return coats, hour
    return coats, None


def some_habits(seed, times, most_sight=3, most_rows=6):
    """(sight, rows) of habits, the same ones in each run of the tests."""
    dice = Random(seed)
    found = []
    for _ in range(times):
        sight = dice.randint(0, most_sight)
        found.append((sight, [(dice.choice([0, 0, 1, 2, 3, 4]), dice.randint(1, 4),
                               "".join(dice.choice("??.#") for _ in range(sight)), dice.random() < 0.3)
                              for _ in range(dice.randint(0, most_rows))]))
    return found


def all_worlds(a, b, kinds, hours):
    """Point [45]: the worlds of so many hours, in their order."""
    return list(_all_worlds(a, b, tuple(kinds), hours))


@lru_cache(10_000)
def _all_worlds(a, b, kinds, hours):
    return [world for world in map("".join, product("c", *["c.#"] * (hours - 1)))
            if is_of(kinds, world.replace("c", ".")) and is_row_of(a, b, world)]


def is_row_of(a, b, world):
    """The hours with c are a keeping."""
    coats = [at + 1 for at, letter in enumerate(world) if letter == "c"]
    return coats[-1] + b > len(world) and all(a <= later - early <= b for early, later in zip(coats, coats[1:]))


def fits(marks, world):
    """Point [46]."""
    return len(marks) == len(world) and all(letter in MARKS[mark] for mark, letter in zip(marks, world))


def some_marks(seed, times, hours):
    """Marks of diaries, the same ones in each run of the tests."""
    dice = Random(seed)
    return ["c" + "".join(dice.choice("???o-x.#c") for _ in range(hours - 1)) for _ in range(times)]
