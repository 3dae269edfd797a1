"""The names, arguments and places of the interface."""

import ast
from importlib import import_module
import inspect
from pathlib import Path
import unittest

ROOT = Path(__file__).resolve().parent.parent
README = (ROOT / "README.md").read_text()
# For each module its functions and classes; an empty text between the arguments of a class and its methods.
INTERFACE = {
    "base.ratio": ["Ratio(top, bottom=1): __add__ __sub__ __mul__ __neg__ __eq__ compare floor ceiling text"],
    "base.lacquer": ["Lacquer(a, b): slack __eq__ __contains__ spans turns lead", "lacquers(most)"],
    "sky.weather": ["Weather(lengths): hours __iter__ __eq__ __add__ of_signs signs is_dry first runs spells back"],
    "sky.climate": ["Climate(kinds): need peak __iter__ __eq__ __contains__ __or__ __and__ dry single longest least_run"],
    "sky.member": ["breach(climate, weather)", "next_signs(climate, weather)", "fullest(climate, runs)",
                   "least_climate(*weathers)"],
    "sky.order": ["beneath(one, other)", "parting(one, other)", "joined(*climates)", "shared(first, *rest)"],
    "words.writing": ["write_lacquer(lacquer)", "write_climate(climate)", "write_weather(weather)"],
    "words.reading": ["read_lacquer(text)", "read_climate(text)", "read_weather(text)"],
    "lead.verdict": ["lead_of(lacquer, climate)", "bad_kinds(lacquer, climate)", "is_sound(lacquer, climate)",
                     "sight_needed(lacquer, climate)", "kind_booking(lacquer, w, g)",
                     "booking_needed(lacquer, climate)"],
    "lead.tops": ["greatest(lacquer)", "greatest_seen(lacquer, sight)", "greatest_booked(lacquer, sight)",
                  "greatest_paced(lacquer, pace)"],
    "lead.loss": ["pace(lacquer, climate)", "loss(lacquer, climate, n)", "sure_by(lacquer, climate, n)",
                  "coats_sure(lacquer, climate, hour)", "worst(lacquer, climate, n)"],
    "lead.spoilers": ["spoiler(lacquer, w, g)", "least_spoiler(lacquer, climate)"],
    "lead.good": ["is_good(lacquer, climate, run, ahead)", "good_places(lacquer, climate, run)",
                  "leg(lacquer, climate, run, place)"],
    "told.reach": ["reached(lacquer, weather)", "possible(lacquer, weather, n)", "live(lacquer, weather)",
                   "spoilt_hour(lacquer, weather)", "blame(lacquer, weather)", "blame_holds(lacquer, weather, hours)"],
    "told.keep": ["is_keeping(lacquer, weather, row)", "ways(lacquer, weather)", "closed_ways(lacquer, weather)",
                  "keepings(lacquer, weather)", "keeping_at(lacquer, weather, place)",
                  "place_of(lacquer, weather, row)"],
    "told.span": ["earliest(lacquer, weather)", "latest(lacquer, weather)", "fewest_most(lacquer, weather)",
                  "earliest_with(lacquer, weather, n)", "latest_with(lacquer, weather, n)"],
    "told.blend": ["sooner(one, other)", "later(one, other)"],
    "told.rule": ["rule_row(lacquer, climate, weather)", "spare(lacquer, climate, weather)"],
    "web.stepset": ["StepSet(steps): farthest __iter__ __eq__ __contains__ __or__ of"],
    "web.stands": ["first_stand()", "next_stand(steps, climate, stand, sign)", "stand_after(steps, climate, weather)"],
    "web.closed": ["closed_list(steps, climate)", "list_holds(steps, climate, stands)",
                   "shortest_spoiler(steps, climate)"],
    "web.culprits": ["culprits(steps, climate)"],
    "play.hourly": ["HourWeb(steps, climate, sight): sure choices_at", "sure_hourly(steps, climate, sight)",
                    "least_sight(steps, climate, most)"],
    "play.booking": ["sure_booking(steps, climate, sight)", "booked_row(lacquer, climate, sight, weather)"],
    "play.habits": ["Habit(sight, rows): __call__ eager", "rule_habit(lacquer, climate)"],
    "play.judge": ["play(habit, steps, weather)", "spoils(habit, steps, climate)",
                   "habit_stands(habit, steps, climate)", "spoilt_count(habit, steps, climate, n)"],
    "play.alike": ["habits_part(one, other, steps, climate)"],
    "play.trap": ["trap(lacquer, climate, sight)", "trap_weather(habit, lacquer, climate)"],
    "compare.hardness": ["least_b(climate, a)", "sound_lacquers(climate)", "no_harder(one, other)",
                         "parting_lacquer(one, other)"],
    "compare.closure": ["widest(climate)", "leanest(climate)"],
    "compare.cabinet": ["greatest_for(*lacquers)", "no_worse(one, other)", "parting_kind(one, other)"],
    "mend.heat": ["heating(lacquer, weather, prices)", "heat_labels(lacquer, weather, prices)",
                  "labels_hold(lacquer, weather, prices, cost, labels)", "warmed(weather, hours)"],
    "mend.least": ["least_run(lacquer, w)", "longest_spell(lacquer, g)", "greatest_a(climate, b)"],
    "mend.cheapest": ["cheapest(lacquer, climate, *, price_a=1, price_b=1, price_w=1, price_g=1)"],
    "far.count": ["weathers(climate, n)", "kept_weathers(steps, climate, n)"],
    "far.numbering": ["all_weathers(climate, n)", "weather_at(climate, n, place)", "weather_place(climate, weather)"],
    "far.longweather": ["LongWeather(beginning, again): is_dry first breach"],
    "far.ring": ["rule_hour(lacquer, climate, weather, n)", "best_hour(lacquer, weather, n)",
                 "rule_coats(lacquer, climate, weather, hour)", "best_coats(lacquer, weather, hour)",
                 "rule_pace(lacquer, climate, weather)", "best_pace(lacquer, weather)"],
    "half.diary": ["Diary(marks): size __eq__ __and__ allows blank"],
    "half.worlds": ["world_count(diary, lacquer, climate)", "worlds(diary, lacquer, climate)",
                    "world_at(diary, lacquer, climate, place)", "letters_at(diary, lacquer, climate, hour)",
                    "parting_worlds(diary, lacquer, climate, hour)", "sharpest(diary, lacquer, climate)",
                    "coats_until(diary, lacquer, climate, hour)"],
    "half.fitting": ["fitting(diary, climate, most)"],
    "half.ledger": ["Ledger(n): done report take_back standing diary as_of"],
    "shop.desk": ["Desk(lacquer, climate, sight, signs): now coats told heated spoilt deeds state do attempt choices "
                  "status advice", "replayed(lacquer, climate, sight, signs, deeds)"],
    "shop.script": ["line_words(line)", "run(text, *, quiet=False)"],
    "shop.columns": ["sure_columns(lacquer, climate, most)"],
}
METHODS = {
    "Ratio": "compare(other) floor() ceiling() text()",
    "Lacquer": "spans(w) turns(g) lead(w)",
    "Weather": "of_signs(signs) signs() is_dry(hour) first(n) runs() spells() back()",
    "Climate": "dry() single(w, g) longest(run) least_run(w)",
    "StepSet": "of(lacquer)",
    "HourWeb": "choices_at(weather, last, heated=())",
    "Habit": "__call__(age, dry, ahead) eager(sight)",
    "LongWeather": "is_dry(hour) first(n) breach(climate)",
    "Diary": "allows(world) blank(n)",
    "Ledger": "report(hour, mark) take_back(number) standing() diary() as_of(count)",
    "Desk": "state() do(deed) attempt(deeds) choices() status() advice()",
}
PROPERTIES = {"Lacquer": "slack", "Weather": "hours", "Climate": "need peak", "StepSet": "farthest", "HourWeb": "sure",
              "Diary": "size", "Ledger": "done", "Desk": "now coats told heated spoilt deeds"}
GENERATORS = ["lacquers", "keepings", "all_weathers", "worlds", "runs", "spells"]


def entries():
    """(module, name, arguments, names of methods) of each entry."""
    for module, texts in INTERFACE.items():
        for text in texts:
            head, _, methods = text.partition("): ")
            name, _, arguments = head.partition("(")
            yield f"dampspells.{module}", name, arguments.removesuffix(")"), methods.split()


class Interface(unittest.TestCase):
    def test_functions_and_classes(self):
        for module, name, arguments, _ in entries():
            thing = getattr(import_module(module), name)
            self.assertEqual(thing.__module__, module, name)
            self.assertEqual(str(inspect.signature(thing)), f"({arguments})", name)

    def test_methods_are_defined_in_the_class_itself(self):
        for module, name, _, methods in entries():
            for method in methods:
                self.assertIn(method, vars(getattr(import_module(module), name)), name)

    def test_arguments_of_methods(self):
        for module, name, _, methods in entries():
            thing = getattr(import_module(module), name)
            for text in METHODS.get(name, "").replace(") ", ")\n").split("\n") if name in METHODS else []:
                method, _, arguments = text.partition("(")
                self.assertIn(method, methods)
                told = str(inspect.signature(getattr(thing, method)))
                self.assertEqual(told.replace("(self, ", "(").replace("(self)", "()"), f"({arguments}", text)

    def test_properties(self):
        for module, name, _, methods in entries():
            thing = getattr(import_module(module), name)
            found = [method for method in methods if isinstance(vars(thing)[method], property)]
            self.assertEqual(found, PROPERTIES.get(name, "").split())

    def test_generators(self):
        found = []
        for path in sorted((ROOT / "dampspells").rglob("*.py")):
            for node in ast.walk(ast.parse(path.read_text())):
                if isinstance(node, ast.FunctionDef) and any(isinstance(part, ast.Yield) for part in ast.walk(node)):
                    found.append(node.name)
        self.assertEqual(sorted(found), sorted(GENERATORS))

    def test_readme_names_each_module(self):
        for module, _, _, _ in entries():
            self.assertIn(f"`{module}`", README)
        self.assertIn("`dampspells.base.errors`", README)


if __name__ == "__main__":
    unittest.main()
