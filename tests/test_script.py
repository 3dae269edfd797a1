from random import Random
import unittest

from dampspells.base.lacquer import Lacquer
from dampspells.compare.closure import widest
from dampspells.far.count import weathers
from dampspells.half.diary import Diary
from dampspells.half.worlds import world_count
from dampspells.lead.loss import pace, sure_by
from dampspells.lead.tops import greatest
from dampspells.lead.verdict import booking_needed, sight_needed
from dampspells.shop.script import line_words, run
from dampspells.sky.climate import Climate
from dampspells.sky.weather import Weather
from dampspells.told.keep import ways
from dampspells.told.rule import rule_row
from dampspells.words.writing import write_climate
from tests.plain import lacquer_pairs, some_kinds

START = """lacquer h 4-5
lacquer quick 2-3
climate m 2/5
climate bad 1/2+2/4+5/9
climate large 1/13
climate tall 9/1
climate wide 1/9
climate none dry
weather fine 5,2,5,2,1
weather odd 5,3,1
weather wet 4,2,3
steps s 4,5
steps p 2,3,5
steps far 7
climate both 1/1+2/2
climate one 1/1
diary d c??#?
diary long c????????????????????
diary no cc"""


def ask(line):
    """The one answer to a line after the definitions above."""
    answers = run(START + "\n" + line)
    return answers[0] if len(answers) == 1 else answers


def told(line):
    """The answer, or the reason why the line is bad."""
    answer = ask(line)
    return answer.split(": ")[1] if answer[:5] == "line " else answer


class Answers(unittest.TestCase):
    def test_example(self):
        self.assertEqual(run("lacquer h 4-5\nclimate m 2/5\nask lead h m\nask lead h n"), ["4", "line 4: name"])

    def test_definitions_have_no_answer(self):
        self.assertEqual(run(START), [])
        self.assertEqual(run(START + "\njoin j m one\nmeet j m one\ntop t h\nwide w m"), [])

    def test_sights(self):
        for line, answer in (("ask lead h m", "4"), ("ask lead h none", "0"), ("ask lead h bad", "never"),
                             ("ask book h m", "8"), ("ask book h none", "4"), ("ask book h bad", "never"),
                             ("ask pace h m", "5"), ("ask pace h none", "4"), ("ask pace h bad", "never"),
                             ("ask sure h m 0", "1"), ("ask sure h m 3", "16"), ("ask sure h m 400", "2001"),
                             ("ask sure h none 7", "29"), ("ask sure h bad 3", "never"),
                             ("ask sure h bad 401", "never"), ("ask sure h bad 999999", "never")):
            self.assertEqual(ask(line), answer, line)

    def test_against_the_functions(self):
        for at, kinds in enumerate(some_kinds(701, 40, 4, 20)):
            a, b = lacquer_pairs(6)[at % 15]
            lacquer, climate = Lacquer(a, b), Climate(kinds)
            start = f"lacquer x {a}-{b}\nclimate y {write_climate(climate)}\n"
            sight, book = sight_needed(lacquer, climate), booking_needed(lacquer, climate)
            expected = ["never"] * 4
            if sight is not None:
                expected = [str(sight), str(book), pace(lacquer, climate).text(), str(sure_by(lacquer, climate, 9))]
            self.assertEqual(run(start + "ask lead x y\nask book x y\nask pace x y\nask sure x y 9"), expected)
        self.assertEqual(run("lacquer x 2-5\nclimate y 2/3\nask pace x y"), ["3"])
        self.assertEqual(run("lacquer x 2-6\nclimate y 3/3\nask pace x y"), ["7/2"])

    def test_spoilers_and_changes(self):
        for line, answer in (("ask spoiler h m", "none"), ("ask spoiler h bad", "4,2"), ("ask spoiler h none", "none"),
                             ("ask mend h m", "0 4-5 2/5"), ("ask mend h none", "0 4-5 dry"),
                             ("ask mend h bad", "1 4-6 1/2+2/4+5/9")):
            self.assertEqual(ask(line), answer, line)
        self.assertEqual(run("lacquer h 4-5\nclimate x 2/4\nask mend h x"), ["1 4-5 2/5"])
        # The kinds that remain may be needless: the plain list is written.
        self.assertEqual(run("lacquer h 1-12\nclimate x 15/100+16/120\nask mend h x"), ["9 1-12 11/100"])

    def test_rows(self):
        for line, answer in (("ask rule h m fine", "1 5 10 15"), ("ask rule h bad fine", "never"),
                             ("ask rule h bad odd", "never"), ("ask rule h m odd", "strange 8"),
                             ("ask rule h none wet", "strange 5"),
                             ("ask row h fine", "1 5 10 15"), ("ask row h wet", "spoilt 6"), ("ask row h odd", "1 5 9"),
                             ("ask ways h fine", "1"), ("ask ways h wet", "0"), ("ask ways quick fine", None)):
            expected = answer
            if expected is None:
                expected = str(ways(Lacquer(2, 3), Weather([5, 2, 5, 2, 1])))
            self.assertEqual(ask(line), expected, line)
        self.assertEqual(run("lacquer x 1-2\nweather y 200\nask ways x y"), [str(ways(Lacquer(1, 2), Weather([200])))])

    def test_comparisons(self):
        for line, answer in (("ask part m one", "5,2"), ("ask part m m", "none"), ("ask part none m", "none"),
                             ("ask part one m", "1,1"), ("ask alike m m", "none"), ("ask alike one none", "none"),
                             ("ask alike m none", "1-2"), ("ask alike m both", "2-3")):
            self.assertEqual(ask(line), answer, line)

    def test_step_sets(self):
        for line, answer in (("ask kept s m", "kept"), ("ask kept p both", "..##.#"), ("ask kept s bad", "....##"),
                             ("ask blame p both", "1/1+2/2"), ("ask blame s m", "kept"), ("ask blame p one", "kept")):
            self.assertEqual(ask(line), answer, line)

    def test_worlds(self):
        for line, answer in (("ask worlds d quick one", "4"), ("ask worlds no quick one", "0"),
                             ("ask sharp d quick one", "c-c#o"), ("ask sharp no quick one", "none"),
                             ("ask letters d quick one 2", ".#"), ("ask letters d quick one 1", "c"),
                             ("ask letters d quick one 5", "c."), ("ask letters no quick one 2", "none"),
                             ("ask letters no quick one 99", "none")):
            self.assertEqual(ask(line), answer, line)
        self.assertEqual(ask("ask worlds long h m"), str(world_count(Diary.blank(21), Lacquer(4, 5), Climate([(2, 5)]))))

    def test_made_climates(self):
        for line, climate in (("join x m both", "1/1+2/2"), ("join x m one", "1/1+2/5"), ("meet x m both", "2/5"),
                              ("meet x m none", "dry"), ("top x h", write_climate(greatest(Lacquer(4, 5)))),
                              ("wide x m", write_climate(widest(Climate([(2, 5)])))), ("wide x tall", None)):
            expected = climate
            if expected is None:
                expected = write_climate(widest(Climate([(9, 1)])))
            self.assertEqual(run(START + f"\n{line}\nclimate y {expected}\nask part x y\nask part y x"), ["none"] * 2)


class Names(unittest.TestCase):
    def test_each_kind_has_names_of_its_own(self):
        lines = ["lacquer a 4-5", "climate a 2/5", "weather a 5,2,5,2,1", "steps a 4,5", "diary a c...c",
                 "ask lead a a", "ask row a a", "ask kept a a", "ask worlds a a a", "ask part a a"]
        self.assertEqual(run("\n".join(lines)), ["4", "1 5 10 15", "kept", "1", "none"])

    def test_later_definitions_replace_earlier_ones(self):
        self.assertEqual(run("lacquer a 4-5\nclimate c 2/5\nask lead a c\nlacquer a 2-4\nask lead a c"), ["4", "0"])
        self.assertEqual(run("lacquer a 4-5\nclimate c 2/5\njoin c c c\nask lead a c\nclimate d 1/1\nmeet c c d\n"
                             "ask lead a c"), ["4", "0"])

    def test_bad_definitions_change_nothing(self):
        start = "lacquer a 4-5\nclimate c 2/5\n"
        for line, why in (("lacquer a 5-4", "value"), ("lacquer a 4", "form"), ("climate c 2/0", "value"),
                          ("climate c 2/05", "form"), ("join c c d", "name"), ("meet c d c", "name"),
                          ("top c b", "name"), ("wide c d", "name")):
            self.assertEqual(run(start + line + "\nask lead a c"), [f"line 3: {why}", "4"])

    def test_only_later_definitions(self):
        self.assertEqual(run("ask lead a c\nlacquer a 4-5\nask lead a c\nclimate c dry\nask lead a c"),
                         ["line 1: name", "line 3: name", "0"])
        self.assertEqual(run("join x x x\nclimate x dry\njoin x x x"), ["line 1: name"])


class BadLines(unittest.TestCase):
    def test_names_that_are_not_defined(self):
        for line in ("ask lead x m", "ask lead h x", "ask lead m h", "ask rule h m x", "ask row h m", "ask kept m s",
                     "ask worlds x h m", "ask sharp d x m", "ask letters d h x 0", "join x m y", "meet x y m",
                     "top x m", "wide x h", "ask mend x m", "ask sure x m 401", "ask blame s x", "ask alike x m",
                     "ask part m x", "ask book x x", "ask pace h x", "ask spoiler h x", "ask ways x fine"):
            self.assertEqual(told(line), "name", line)

    def test_large(self):
        for line in ("ask kept s large", "ask kept s tall", "ask blame s wide", "ask blame far m", "ask worlds d h large",
                     "ask sharp d h tall", "ask letters d h large 1", "ask letters d h large 99",
                     "ask letters no h tall 0"):
            self.assertEqual(told(line), "large", line)

    def test_values(self):
        for line in ("lacquer x 5-4", "lacquer x 4-13", "lacquer x 0-1", "lacquer x 4-999999", "climate x 17/1",
                     "climate x 1/121", "climate x 0/1", "climate x 2/5+0/0", "weather x 0", "weather x 5,0",
                     "weather x 201", "weather x 100,50,51", "steps x 9", "steps x 0", "steps x 1,2,9",
                     "diary x o", "diary x ?c", "diary x c" + "?" * 30, "ask sure h m 401", "ask sure h none 999999",
                     "ask letters d quick one 0", "ask letters d quick one 6",
                     "climate x " + "+".join(["1/1"] * 301)):
            self.assertEqual(told(line), "value", line)
        self.assertEqual(ask("climate x " + "+".join(["1/1"] * 300)), [])

    def test_forms(self):
        for line in ("ask", "ask ", "ask lead", "ask lead h", "ask lead h m ", " ask lead h m", "ask lead  h m",
                     "ask  lead h m", "ask lead h m m", "ask leads h m", "Ask lead h m", "lead h m", "lacquer", " ",
                     "  ", "lacquer h", "lacquer h ", "lacquer  4-5", "lacquer h 4-5 ", " lacquer h 4-5",
                     "lacquer h 4-5 4-5", "lacquer H 4-5", "lacquer h1 4-5", "lacquer abcdefghi 4-5", "lacquer h 4-05",
                     "lacquer h 4-", "lacquer h 4", "lacquer h 1234567-5", "lacquer h -4-5", "lacquer h 4_5",
                     "climate x ", "climate x 2/", "climate x 2/5+", "climate x Dry", "climate x dry+2/5",
                     "weather x ,", "weather x 5,", "weather x 05", "weather x 5, 2", "steps x", "steps x ,1",
                     "steps x 1,,2", "steps x 1,2,", "steps x 01", "steps x 1-2", "diary x", "diary x ", "diary x c!",
                     "diary x C", "join x m", "join m", "join x m m m", "join x m 2/5", "meet x m", "top x", "top x h h",
                     "wide x", "ask sure h m", "ask sure h m 05", "ask sure h m -1", "ask sure h m 1234567",
                     "ask sure h m m", "ask letters d h m", "ask letters d h m x", "ask lead 4-5 m", "ask lead h 2/5",
                     "ask rule h m", "ask rule h m fine fine", "ask row h", "ask kept s", "ask nothing h m", "\t",
                     "ask lead h\tm", "ask lead h m\t", "end", "lacquer h 4-5.", "x", "ask lead h m # why",
                     "climate abcdefghij dry", "ask lead abcdefghi m", "lacquer x 4-5\r"):
            self.assertEqual(told(line), "form", repr(line))

    def test_two_reasons_at_once(self):
        for line, why in (("ask sure x y 05", "form"), ("lacquer H 5-4", "form"), ("ask letters d h x 99", "name"),
                          ("ask letters d x large 99", "name"), ("ask letters d h large 99", "large"),
                          ("ask sure x none 999", "name"), ("ask kept x large", "name"), ("ask worlds x h large 1", "form"),
                          ("climate X 17/1", "form"), ("join X y z", "form")):
            self.assertEqual(told(line), why, line)

    def test_numbers_of_lines(self):
        text = "\n\nx\n\nlacquer h 4-5\nask lead h m\n\nclimate m 2/5\nask lead h m\n ask\nask row h m\nask lead h m\n"
        self.assertEqual(run(text), ["line 3: form", "line 6: name", "4", "line 10: form", "line 11: name", "4"])
        self.assertEqual(run(text, quiet=True), ["4", "4"])
        self.assertEqual(run(text, quiet=False), run(text))

    def test_empty_scripts(self):
        for text in ("", "\n", "\n\n\n"):
            self.assertEqual(run(text), [])
            self.assertEqual(run(text, quiet=True), [])
        self.assertEqual(run(" "), ["line 1: form"])
        with self.assertRaises(TypeError):
            run("", True)


class LineWords(unittest.TestCase):
    def test_right_forms(self):
        for line in ("lacquer h 4-5", "lacquer abcdefgh 999999-0", "climate ask dry", "climate c 0/0+999999/1",
                     "weather lead 5,2,5", "weather w 0", "steps s 1", "steps s 0,999999", "diary d c", "diary d ???oxx#.-",
                     "diary d " + "?" * 50, "join a b c", "meet a b c", "top a b", "wide a b", "ask lead a b",
                     "ask book a b", "ask pace a b", "ask sure a b 0", "ask sure a b 999999", "ask spoiler a b",
                     "ask mend a b", "ask rule a b c", "ask row a b", "ask ways a b", "ask part a b", "ask alike a b",
                     "ask kept a b", "ask blame a b", "ask worlds a b c", "ask sharp a b c", "ask letters a b c 0",
                     "join join join join", "ask lead ask lead", "climate x " + "+".join(["1/1"] * 301)):
            self.assertEqual(line_words(line), line.split(" "), line)

    def test_wrong_forms(self):
        for line in ("lacquer h", "ask lead a", " ", "lacquer h 4-5 ", "ask lead a  b", "ask", "ask ask a b", "zz",
                     "lacquer h 4-05", "diary d z", "steps s", "top a", "ask sure a b c", "ask sure a b 00", "A"):
            self.assertIsNone(line_words(line), line)

    def test_empty_lines(self):
        self.assertEqual(line_words(""), [])

    def test_lists_are_new(self):
        for line in ("", "top a b"):
            expected = list(line_words(line))
            line_words(line).append("z")
            self.assertEqual(line_words(line), expected)
        answers = run("x")
        answers.append("z")
        self.assertEqual(run("x"), ["line 1: form"])


class LongScripts(unittest.TestCase):
    def test_many_lines(self):
        dice = Random(711)
        lines, expected = ["lacquer h 4-5", "climate m 2/5"], []
        for _ in range(300):
            n = dice.randint(0, 400)
            lines.append(f"ask sure h m {n}")
            expected.append(str(sure_by(Lacquer(4, 5), Climate([(2, 5)]), n)))
        self.assertEqual(run("\n".join(lines)), expected)
        weather = Weather([9, 2] * 18)
        self.assertEqual(run("\n".join([*lines[:2], "weather w " + ",".join(["9,2"] * 18), "ask rule h m w"])),
                         [" ".join(map(str, rule_row(Lacquer(4, 5), Climate([(2, 5)]), weather)))])
        self.assertEqual(weathers(Climate([(2, 5)]), 6), 2)


if __name__ == "__main__":
    unittest.main()
