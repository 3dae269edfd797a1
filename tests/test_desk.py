from random import Random
import unittest

from dampspells.base.errors import BadNumber, BadWeather, DampError, Refused, Strange, TooLarge
from dampspells.base.lacquer import Lacquer
from dampspells.lead.verdict import is_sound, lead_of
from dampspells.play.hourly import HourWeb
from dampspells.shop.desk import Desk, replayed
from dampspells.sky.climate import Climate
from dampspells.sky.weather import Weather
from dampspells.told.rule import rule_row
from dampspells.web.stepset import StepSet
from tests import plain
from tests.plain import is_of, is_sound_pair, lacquer_pairs, most_damp, need_of, some_kinds, texts_after

EXAMPLE = (Lacquer(4, 5), Climate([(2, 5)]), 4, "......")
UNDO, REDO = ("undo",), ("redo",)


class PlainDesk:
    """Points [50] and [51], word for word: all states are kept, and the place of the present one."""

    def __init__(self, a, b, kinds, sight, signs):
        self.sight = sight
        self.states = [{"now": 2, "coats": [1], "told": signs, "heated": [], "spoilt": None, "ab": (a, b),
                        "kinds": kinds}]
        self.deeds = []
        self.at = 0

    @property
    def state(self):
        return self.states[self.at]

    def why_not(self, deed):
        s, word, rest = self.state, deed[0], deed[1:]
        if word in ("undo", "redo"):
            return "nothing" if self.at == (0 if word == "undo" else len(self.states) - 1) else None
        last, now, told = s["coats"][-1], s["now"], s["told"]
        reasons = [("spoilt", s["spoilt"] is not None)]
        if word == "lay":
            reasons += [("damp", told[now - 1] == "#" and now not in s["heated"]), ("early", now - last < s["ab"][0])]
        if word in ("lay", "wait"):
            reasons += [("full", len(told) >= 200), ("climate", not is_of(s["kinds"], told + rest[0]))]
        if word == "heat":
            reasons += [("hour", not now <= rest[0] <= len(told)),
                        ("dry", rest[0] in s["heated"] or told[rest[0] - 1:rest[0]] == ".")]
        if word == "lacquer":
            a, b = rest
            reasons += [("numbers", not 1 <= a < b <= 6), ("late", now - last > b)]
        if word == "climate":
            kinds = rest[0]
            wrong = len(kinds) > 300 or not all(1 <= w <= 16 and 1 <= g <= 120 for w, g in kinds)
            large = wrong or need_of(kinds) > 8 or max([w for w, g in kinds], default=0) > 6
            reasons += [("kinds", large), ("climate", large or not is_of(kinds, told))]
        return next((why for why, applies in reasons if applies), None)

    def do(self, deed):
        if deed == UNDO:
            self.at -= 1
        elif deed == REDO:
            self.at += 1
        else:
            after = dict(self.state)
            if deed[0] == "lay":
                after["coats"] = after["coats"] + [after["now"]]
            if deed[0] == "wait" and after["now"] - after["coats"][-1] >= after["ab"][1]:
                after["spoilt"] = after["now"]
            if deed[0] in ("lay", "wait"):
                after.update(now=after["now"] + 1, told=after["told"] + deed[1])
            if deed[0] == "heat":
                after["heated"] = sorted(after["heated"] + [deed[1]])
            if deed[0] == "lacquer":
                after["ab"] = deed[1:]
            if deed[0] == "climate":
                after["kinds"] = list(deed[1])
            self.states = self.states[:self.at + 1] + [after]
            self.deeds = self.deeds[:self.at] + [deed]
            self.at += 1

    def told_state(self):
        s = self.state
        return (s["now"], tuple(s["coats"]), s["told"], tuple(s["heated"]), s["spoilt"], s["ab"],
                Climate(s["kinds"]).kinds)

    def is_lost(self):
        """Point [52], by trying all lists of hours."""
        s = self.state
        open_hours = [hour for hour in range(s["now"], len(s["told"]) + 1)
                      if s["told"][hour - 1] == "." or hour in s["heated"]]
        a, b = s["ab"]
        lasts = [s["coats"][-1]]
        for last in lasts:
            lasts.extend(hour for hour in open_hours if a <= hour - last <= b and hour not in lasts)
        return all(last + b <= len(s["told"]) for last in lasts)


def some_deed(dice, model):
    s = model.state
    word = dice.choice(["lay"] * 6 + ["wait"] * 12 + ["heat"] * 3 + ["lacquer", "climate"] + ["undo"] * 2 + ["redo"])
    if word in ("lay", "wait"):
        return (word, dice.choice("..#"))
    if word == "heat":
        return (word, dice.randint(s["now"] - 1, len(s["told"]) + 1))
    if word == "lacquer":
        return (word, dice.randint(0, 5), dice.randint(1, 7))
    if word == "climate":
        return (word, tuple((dice.randint(1, 4), dice.randint(1, 8)) for _ in range(dice.randint(0, 3))))
    return (word,)


def go_on(dice, desk, model):
    """A deed that is not refused, of the desk and of the model; none if it is refused."""
    deed = some_deed(dice, model)
    if model.why_not(deed) is None:
        desk.do(deed)
        model.do(deed)


def random_desks(seed, times):
    """(dice, desk, model) of desks at their start."""
    dice = Random(seed)
    for kinds in some_kinds(seed + 1, times, 4, 6):
        a, b = dice.choice(lacquer_pairs(6))
        sight = dice.randint(0, 3)
        signs = "." + dice.choice(texts_after(kinds, ".", sight + 1))
        yield dice, Desk(Lacquer(a, b), Climate(kinds), sight, signs), PlainDesk(a, b, kinds, sight, signs)


def refused(test, desk, deed):
    """Why the deed is refused; the desk stays as it was."""
    before = (desk.state(), desk.deeds)
    with test.assertRaises(Refused) as caught:
        desk.do(deed)
    test.assertIsInstance(caught.exception, DampError)
    test.assertEqual((desk.state(), desk.deeds), before)
    return caught.exception.why


class Deeds(unittest.TestCase):
    def test_against_the_words_of_the_document(self):
        seen = {}
        for dice, desk, model in random_desks(601, 60):
            for _ in range(80):
                deed = some_deed(dice, model)
                why = model.why_not(deed)
                if why is None:
                    self.assertIsNone(desk.do(deed))
                    model.do(deed)
                else:
                    self.assertEqual(refused(self, desk, deed), why, deed)
                self.assertEqual(desk.state(), model.told_state())
                self.assertEqual(desk.deeds, tuple(model.deeds[:model.at]))
                seen[deed[0], why] = seen.get((deed[0], why), 0) + 1
        for word, whys in (("lay", ["damp", "early", "climate"]), ("wait", ["climate"]), ("heat", ["hour", "dry"]),
                           ("lacquer", ["numbers", "late"]), ("climate", ["climate"]),
                           ("undo", ["nothing"]), ("redo", ["nothing"])):
            for why in [None, *whys]:
                self.assertTrue(seen.get((word, why), 0) > 3, (word, why, seen))
            if word not in ("undo", "redo"):
                self.assertTrue(seen.get((word, "spoilt"), 0) > 3, (word, seen))

    def test_at_the_start(self):
        desk = Desk(*EXAMPLE)
        self.assertEqual((desk.now, desk.coats, desk.told, desk.heated, desk.spoilt, desk.deeds),
                         (2, (1,), "......", (), None, ()))
        self.assertEqual(desk.state(), (2, (1,), "......", (), None, (4, 5), ((2, 5),)))

    def test_lay_and_wait(self):
        desk = replayed(*EXAMPLE, [("wait", "."), ("wait", "."), ("wait", ".")])
        desk.do(("lay", "#"))
        self.assertEqual(desk.state(), (6, (1, 5), ".........#", (), None, (4, 5), ((2, 5),)))
        self.assertEqual(desk.deeds, (("wait", "."), ("wait", "."), ("wait", "."), ("lay", "#")))

    def test_damp_before_early_before_climate(self):
        desk = Desk(Lacquer(2, 3), Climate([(2, 1)]), 2, ".##.")
        self.assertEqual(refused(self, desk, ("lay", ".")), "damp")
        # The present hour is damp, too early, and no damp hour can follow.
        self.assertEqual(refused(self, desk, ("lay", "#")), "damp")
        desk.do(("heat", 2))
        self.assertEqual(refused(self, desk, ("lay", ".")), "early")
        other = Desk(Lacquer(2, 3), Climate([(2, 3)]), 2, "....")
        other.do(("climate", ()))
        self.assertEqual(refused(self, other, ("lay", "#")), "early")
        self.assertEqual(refused(self, other, ("wait", "#")), "climate")
        other.do(("wait", "."))
        self.assertEqual(refused(self, other, ("lay", "#")), "climate")

    def test_spoilt_work(self):
        desk = Desk(Lacquer(1, 2), Climate([(2, 1)]), 0, ".#")
        desk.do(("wait", "#"))
        self.assertIsNone(desk.spoilt)
        desk.do(("wait", "."))
        # The present hour goes on although the work is spoilt in the hour before.
        self.assertEqual(desk.state(), (4, (1,), ".##.", (), 3, (1, 2), ((2, 1),)))
        self.assertEqual((desk.choices(), desk.status(), desk.advice()), ([], "spoilt", None))
        for deed in (("lay", "."), ("wait", "."), ("heat", 3), ("heat", 99), ("lacquer", 1, 6), ("lacquer", 9, 9),
                     ("climate", ()), ("climate", ((99, 0),)), ("lay", "#")):
            self.assertEqual(refused(self, desk, deed), "spoilt")
        self.assertEqual(refused(self, desk, REDO), "nothing")
        desk.do(UNDO)
        self.assertEqual(desk.state(), (3, (1,), ".##", (), None, (1, 2), ((2, 1),)))
        desk.do(REDO)
        self.assertEqual(desk.spoilt, 3)

    def test_200_told_hours(self):
        desk = Desk(Lacquer(1, 6), Climate([(1, 1)]), 2, "....")
        while len(desk.told) < 200:
            desk.do(("lay", "."))
        self.assertEqual((desk.now, len(desk.coats)), (198, 197))
        # Full comes before climate, and after damp and early.
        for deed in (("lay", "."), ("wait", "."), ("wait", "#"), ("lay", "#")):
            self.assertEqual(refused(self, desk, deed), "full")
        desk.do(("lacquer", 2, 6))
        self.assertEqual(refused(self, desk, ("lay", ".")), "early")
        desk.do(("climate", ()))
        self.assertEqual(refused(self, desk, ("wait", "#")), "full")
        self.assertEqual((desk.choices(), desk.status(), desk.advice()), (["wait"], "sure", "wait"))
        for _ in range(198):
            desk.do(UNDO)
        self.assertEqual(refused(self, desk, UNDO), "nothing")
        self.assertEqual(desk.state(), Desk(Lacquer(1, 6), Climate([(1, 1)]), 2, "....").state())
        for _ in range(198):
            desk.do(REDO)
        self.assertEqual((desk.now, desk.state()[5], refused(self, desk, REDO)), (198, (2, 6), "nothing"))

    def test_heat(self):
        desk = Desk(Lacquer(2, 3), Climate([(3, 1)]), 4, ".###.#")
        for hour, why in ((1, "hour"), (0, "hour"), (-1, "hour"), (7, "hour"), (99, "hour"), (5, "dry")):
            self.assertEqual(refused(self, desk, ("heat", hour)), why)
        desk.do(("heat", 6))
        desk.do(("heat", 2))
        desk.do(("heat", 3))
        self.assertEqual(desk.heated, (2, 3, 6))
        self.assertEqual(refused(self, desk, ("heat", 2)), "dry")
        self.assertEqual(desk.told, ".###.#")
        desk.do(("wait", "."))
        # The heated hour that has passed is still known, and the present one is heated.
        self.assertEqual((desk.heated, desk.now), ((2, 3, 6), 3))
        self.assertEqual(refused(self, desk, ("heat", 2)), "hour")
        desk.do(("lay", "."))
        self.assertEqual(desk.coats, (1, 3))
        desk.do(("wait", "."))
        self.assertEqual(refused(self, desk, ("heat", 4)), "hour")
        self.assertEqual(refused(self, desk, ("heat", 5)), "dry")

    def test_lacquer(self):
        desk = Desk(Lacquer(2, 6), Climate([]), 0, "..")
        for a, b in ((0, 3), (3, 3), (4, 3), (3, 7), (-1, 2), (6, 7)):
            self.assertEqual(refused(self, desk, ("lacquer", a, b)), "numbers")
        for _ in range(3):
            desk.do(("wait", "."))
        self.assertEqual(desk.now, 5)
        self.assertEqual(refused(self, desk, ("lacquer", 1, 3)), "late")
        self.assertEqual(refused(self, desk, ("lacquer", 0, 3)), "numbers")
        desk.do(("lacquer", 1, 4))
        self.assertEqual(desk.state()[5], (1, 4))
        # The new b holds for the step from the last coat: waiting spoils the work.
        desk.do(("wait", "."))
        self.assertEqual(desk.spoilt, 5)
        desk.do(UNDO)
        desk.do(("lay", "."))
        self.assertEqual(desk.coats, (1, 5))

    def test_climate(self):
        desk = Desk(Lacquer(2, 6), Climate([(2, 3)]), 3, "...##")
        for kinds in (((0, 3),), ((2, 0),), ((17, 3),), ((2, 121),), ((2, 9),), ((7, 3),), ((2, 3), (6, 9)),
                      ((2, 3),) * 301, ((7, 9), (1, 4))):
            self.assertEqual(refused(self, desk, ("climate", kinds)), "kinds")
        for kinds in ((), ((1, 1),), ((2, 4),), ((6, 8), (1, 1))):
            self.assertEqual(refused(self, desk, ("climate", kinds)), "climate")
        desk.do(("climate", ((6, 8), (2, 3), (1, 3), (2, 90))))
        self.assertEqual(desk.state()[6], ((2, 3), (6, 8)))
        # This climate lets no damp hour follow.
        self.assertEqual(refused(self, desk, ("wait", "#")), "climate")
        desk.do(("climate", ((3, 3),)))
        desk.do(("wait", "#"))
        self.assertEqual(desk.told, "...###")
        self.assertEqual(desk.deeds[0], ("climate", ((6, 8), (2, 3), (1, 3), (2, 90))))


class UndoAndRedo(unittest.TestCase):
    def test_at_the_start(self):
        desk = Desk(*EXAMPLE)
        self.assertEqual([refused(self, desk, UNDO), refused(self, desk, REDO)], ["nothing", "nothing"])

    def test_new_deeds_leave_nothing_to_do_again(self):
        desk = replayed(*EXAMPLE, [("wait", "."), ("wait", "#"), UNDO])
        # A refused deed leaves everything as it was, also what can be done again.
        self.assertEqual(refused(self, desk, ("lay", ".")), "early")
        self.assertEqual(desk.deeds, (("wait", "."),))
        desk.do(REDO)
        self.assertEqual(desk.deeds, (("wait", "."), ("wait", "#")))
        desk.do(UNDO)
        desk.do(("wait", "."))
        self.assertEqual(refused(self, desk, REDO), "nothing")
        self.assertEqual(desk.told, "........")
        desk.do(UNDO)
        desk.do(UNDO)
        desk.do(REDO)
        desk.do(REDO)
        self.assertEqual(desk.told, "........")

    def test_everything_comes_back(self):
        deeds = [("wait", "."), ("wait", "#"), ("heat", 8), ("climate", ((3, 5), (1, 2))), ("lacquer", 2, 6),
                 ("lay", "#"), ("wait", ".")]
        desk = Desk(*EXAMPLE)
        states = [desk.state()]
        for deed in deeds:
            desk.do(deed)
            states.append(desk.state())
        for _ in range(3):
            for at in range(len(deeds) - 1, -1, -1):
                desk.do(UNDO)
                self.assertEqual((desk.state(), desk.deeds), (states[at], tuple(deeds[:at])))
            for at in range(1, len(deeds) + 1):
                desk.do(REDO)
                self.assertEqual((desk.state(), desk.deeds), (states[at], tuple(deeds[:at])))


class Attempts(unittest.TestCase):
    def test_all_or_nothing(self):
        desk = replayed(*EXAMPLE, [("wait", "."), ("wait", "#"), UNDO])
        before = (desk.state(), desk.deeds)
        for deeds, why in (([("wait", "."), ("wait", "."), ("lay", "."), ("lay", ".")], "early"),
                           ([UNDO, UNDO], "nothing"), ([("wait", "."), REDO], "nothing"), ([REDO, REDO], "nothing"),
                           ([UNDO, ("wait", "."), ("lacquer", 3, 3)], "numbers"), ([("heat", 99)], "hour"),
                           ([("wait", ".")] * 5, "spoilt")):
            given = list(deeds)
            with self.assertRaises(Refused) as caught:
                desk.attempt(deeds)
            self.assertEqual(caught.exception.why, why)
            self.assertIsInstance(caught.exception, DampError)
            self.assertEqual((desk.state(), desk.deeds), before)
            self.assertEqual(deeds, given)
            # What can be undone and done again is as before, too.
            desk.do(REDO)
            self.assertEqual(desk.deeds, (("wait", "."), ("wait", "#")))
            for _ in range(2):
                desk.do(UNDO)
            self.assertEqual(refused(self, desk, UNDO), "nothing")
            desk.do(REDO)
        self.assertIsNone(desk.attempt([]))
        self.assertEqual((desk.state(), desk.deeds), before)
        desk.do(REDO)
        desk.do(UNDO)

    def test_deeds_that_are_done(self):
        desk = Desk(*EXAMPLE)
        self.assertIsNone(desk.attempt([("wait", "."), ("wait", "."), UNDO, ("wait", "#"), UNDO, REDO]))
        self.assertEqual(desk.deeds, (("wait", "."), ("wait", "#")))
        # Each deed of an attempt is undone alone.
        desk.do(UNDO)
        self.assertEqual(desk.deeds, (("wait", "."),))
        desk.do(REDO)
        self.assertEqual(desk.told, ".......#")

    def test_against_deeds_one_by_one(self):
        done = undone = 0
        for dice, desk, model in random_desks(611, 60):
            for _ in range(12):
                # What is to come is tried on a model that starts anew.
                trial = PlainDesk(0, 0, [], model.sight, "")
                trial.states, trial.deeds, trial.at = list(model.states), list(model.deeds), model.at
                deeds, why = [], None
                for _ in range(dice.randint(0, 4)):
                    deeds.append(some_deed(dice, trial))
                    why = trial.why_not(deeds[-1])
                    if why is not None:
                        break
                    trial.do(deeds[-1])
                if why is None:
                    desk.attempt(deeds)
                    model, done = trial, done + 1
                else:
                    with self.assertRaises(Refused) as caught:
                        desk.attempt(deeds)
                    self.assertEqual(caught.exception.why, why)
                    undone += len(deeds) > 1
                self.assertEqual((desk.state(), desk.deeds), (model.told_state(), tuple(model.deeds[:model.at])))
        self.assertTrue(done > 100 and undone > 100, (done, undone))


class Judgements(unittest.TestCase):
    def test_choices_and_status(self):
        seen = {}
        for dice, desk, model in random_desks(621, 60):
            for _ in range(25):
                go_on(dice, desk, model)
                s = model.state
                expected = []
                if s["spoilt"] is None:
                    web = HourWeb(StepSet.of(Lacquer(*s["ab"])), Climate(s["kinds"]), model.sight)
                    expected = web.choices_at(Weather.of_signs(s["told"]), s["coats"][-1], s["heated"])
                self.assertEqual(desk.choices(), expected)
                status = "open"
                if s["spoilt"] is not None:
                    status = "spoilt"
                elif model.is_lost():
                    status = "lost"
                elif expected:
                    status = "sure"
                self.assertEqual(desk.status(), status)
                seen[status] = seen.get(status, 0) + 1
        self.assertTrue(len(seen) == 4 and min(seen.values()) > 10, seen)

    def test_choices_by_a_plain_search(self):
        for kinds, a, b, sight, signs, deeds in (
                ([(2, 5)], 4, 5, 4, "......", [("wait", ".")] * 3), ([(2, 3)], 2, 3, 2, "...#", []),
                ([(1, 1)], 1, 2, 1, "...", [("wait", "#")]), ([(1, 1)], 1, 2, 1, "...", [("wait", "#"), ("heat", 4)]),
                ([(2, 2), (1, 1)], 2, 4, 1, "..#", [("heat", 3), ("wait", "#"), ("lay", ".")])):
            desk = replayed(Lacquer(a, b), Climate(kinds), sight, signs, deeds)
            known = desk.told
            told = plain.worker_goes_on(range(a, b + 1), kinds, known, sight, desk.coats[-1], desk.heated,
                                        len(known) + 12)
            self.assertEqual(desk.choices(), told)
            plain.forget()

    def test_lost_is_spoilt_whatever_comes(self):
        lost = 0
        for dice, desk, model in random_desks(631, 60):
            for _ in range(20):
                deed = some_deed(dice, model)
                if model.why_not(deed) is None and deed[0] != "redo":
                    desk.do(deed)
                    model.do(deed)
                if desk.status() == "lost":
                    lost += 1
                    # All ways on, with dry hours only: the work is spoilt within b hours.
                    ends = [desk.deeds]
                    for deeds in ends:
                        way = replayed(*self.start(model), list(deeds))
                        if way.spoilt is None:
                            self.assertEqual((way.choices(), way.status()), ([], "lost"))
                            self.assertLess(way.now, desk.now + 14)
                            ends.extend(deeds + (more,) for more in (("lay", "."), ("wait", "."))
                                        if self.is_done(way, more))
                    break
        self.assertGreater(lost, 5)

    def start(self, model):
        first = model.states[0]
        return Lacquer(*first["ab"]), Climate(first["kinds"]), model.sight, first["told"]

    def is_done(self, desk, deed):
        try:
            desk.do(deed)
        except Refused:
            return False
        desk.do(UNDO)
        return True

    def test_lost_and_found_again_by_heating(self):
        desk = Desk(Lacquer(1, 2), Climate([(2, 1)]), 2, ".##.")
        self.assertEqual((desk.status(), desk.choices()), ("lost", []))
        desk.do(("heat", 3))
        self.assertEqual(desk.status(), "open")
        desk.do(UNDO)
        desk.do(("climate", ((2, 1),)))
        self.assertEqual(desk.status(), "lost")
        desk.do(("lacquer", 1, 3))
        self.assertEqual((desk.status(), desk.choices()), ("sure", ["wait"]))
        desk.do(UNDO)
        desk.do(("heat", 2))
        self.assertEqual(desk.status(), "open")

    def test_an_empty_continuation_counts(self):
        # The last coat itself lasts beyond the told hours.
        desk = Desk(Lacquer(4, 5), Climate([(3, 1)]), 2, ".###")
        self.assertEqual(desk.status(), "open")
        desk = Desk(Lacquer(1, 4), Climate([(3, 1)]), 2, ".###")
        self.assertEqual((desk.status(), desk.choices()), ("sure", ["wait"]))
        desk = Desk(Lacquer(1, 3), Climate([(3, 1)]), 2, ".###")
        self.assertEqual(desk.status(), "lost")

    def test_lists_are_new(self):
        desk = Desk(*EXAMPLE)
        desk.choices().append("z")
        self.assertEqual(desk.choices(), ["wait"])


class Advice(unittest.TestCase):
    def plain_advice(self, desk, a, b, kinds, sight):
        """Point [53], word for word."""
        leads = [((w + b - a - 1) // (b - a) - 1) * a for w, g in Climate(kinds)]
        sound = all(is_sound_pair(a, b, w, g) for w, g in kinds)
        if desk.spoilt is not None or not sound or sight < max(leads, default=0):
            return None
        now, told = desk.now, desk.told
        if told[now - 1] == "#" or now - desk.coats[-1] < a:
            return "wait"
        spell = told.find("#", now) + 1
        if spell == 0:
            return "lay"
        start = told.rfind("#", 0, now) + 2
        ahead = spell - now
        return "lay" if -(-ahead // a) * b >= ahead + most_damp(kinds, spell - start) else "wait"

    def test_against_the_words_of_the_document(self):
        seen = {}
        for dice, desk, model in random_desks(641, 150):
            for _ in range(20):
                go_on(dice, desk, model)
                s = model.state
                told = desk.advice()
                self.assertEqual(told, self.plain_advice(desk, *s["ab"], s["kinds"], model.sight))
                seen[told] = seen.get(told, 0) + 1
        self.assertTrue(set(seen) == {None, "lay", "wait"} and min(seen.values()) > 50, seen)

    def test_whoever_follows_it_never_spoils_the_work(self):
        dice = Random(651)
        many = 0
        for kinds in some_kinds(652, 150, 5, 8):
            a, b = dice.choice(lacquer_pairs(6))
            lacquer, climate = Lacquer(a, b), Climate(kinds)
            sight = lead_of(lacquer, climate) + dice.randint(0, 1)
            if not is_sound(lacquer, climate) or sight > 5:
                continue
            many += 1
            signs = "." + dice.choice(texts_after(kinds, ".", sight + 1))
            desk = Desk(lacquer, climate, sight, signs)
            for _ in range(40):
                self.assertIn(desk.advice(), desk.choices())
                self.assertEqual(desk.status(), "sure")
                desk.do((desk.advice(), dice.choice(texts_after(kinds, desk.told, 1) * 2 + ["."])))
            self.assertIsNone(desk.spoilt)
            # Whether a coat is laid depends on no more hours than are seen: it is the rule.
            row = rule_row(lacquer, climate, Weather.of_signs(desk.told))
            self.assertEqual(list(desk.coats), [hour for hour in row if hour < desk.now])
        self.assertGreater(many, 40)

    def test_sights(self):
        lacquer, climate = Lacquer(4, 5), Climate([(2, 5)])
        self.assertEqual(lead_of(lacquer, climate), 4)
        self.assertIsNone(Desk(lacquer, climate, 3, ".....").advice())
        self.assertEqual(Desk(lacquer, climate, 4, "......").advice(), "wait")
        self.assertIsNone(Desk(lacquer, Climate([(2, 4)]), 5, ".......").advice())
        # By the lacquer and the climate that the desk has now.
        desk = Desk(lacquer, climate, 3, ".....")
        desk.do(("climate", ((1, 1),)))
        self.assertEqual(desk.advice(), "wait")
        desk.do(("lacquer", 1, 5))
        self.assertEqual(desk.advice(), "lay")

    def test_heated_hours_are_damp_for_it(self):
        desk = Desk(Lacquer(2, 4), Climate([(2, 2)]), 2, "..#.")
        desk.attempt([("heat", 3), ("wait", ".")])
        self.assertEqual((desk.now, desk.advice()), (3, "wait"))
        self.assertIn("lay", desk.choices())


class Starts(unittest.TestCase):
    def test_bounds(self):
        self.assertEqual(Desk(Lacquer(5, 6), Climate([(6, 8)]), 5, ".......").now, 2)
        self.assertEqual(Desk(Lacquer(1, 2), Climate([]), 0, "..").now, 2)

    def test_errors_in_their_order(self):
        lacquer, climate = Lacquer(4, 5), Climate([(2, 5)])
        for sight in (-1, -10 ** 9):
            for signs in ("......", "", "######"):
                self.check(BadNumber, Lacquer(6, 7), Climate([(7, 9)]), sight, signs)
                self.check(BadNumber, lacquer, climate, sight, signs)
        for large, wide, sight in ((Lacquer(6, 7), climate, 4), (Lacquer(1, 12), climate, 4),
                                   (lacquer, Climate([(2, 9)]), 4), (lacquer, Climate([(7, 5)]), 4),
                                   (lacquer, climate, 6)):
            for signs in ("......", "", ".#....", "........"):
                self.check(TooLarge, large, wide, sight, signs)
        for signs in (".....", ".......", "", "#.....", "..x...", ".....#.", "." * 201):
            self.check(BadWeather, lacquer, climate, 4, signs)
        for signs, hour in ((".#....", 2), (".....#", None), ("....#.", 5)):
            if hour is None:
                Desk(lacquer, climate, 4, signs)
            else:
                self.assertEqual(self.check(Strange, lacquer, climate, 4, signs).hour, hour)

    def check(self, error, *given):
        with self.assertRaises(error) as caught:
            Desk(*given)
        self.assertIsInstance(caught.exception, DampError)
        with self.assertRaises(error):
            replayed(*given, [("wait", ".")])
        return caught.exception


class Replays(unittest.TestCase):
    def test_deeds_of_a_desk(self):
        for dice, desk, model in random_desks(661, 30):
            for _ in range(30):
                go_on(dice, desk, model)
            first = model.states[0]
            given = (Lacquer(*first["ab"]), Climate(first["kinds"]), model.sight, first["told"])
            told = replayed(*given, list(desk.deeds))
            self.assertIsInstance(told, Desk)
            self.assertEqual((told.state(), told.deeds), (desk.state(), desk.deeds))

    def test_refused_deeds(self):
        with self.assertRaises(Refused) as caught:
            replayed(*EXAMPLE, [("wait", "."), ("lay", ".")])
        self.assertEqual(caught.exception.why, "early")
        self.assertEqual(replayed(*EXAMPLE, []).state(), Desk(*EXAMPLE).state())

    def test_desks_do_not_share_anything(self):
        deeds = [("wait", ".")]
        one, other = replayed(*EXAMPLE, deeds), replayed(*EXAMPLE, deeds)
        one.do(("wait", "."))
        deeds.append(("wait", "#"))
        self.assertEqual((one.now, other.now, len(other.deeds)), (4, 3, 1))


if __name__ == "__main__":
    unittest.main()
