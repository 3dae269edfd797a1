"""What the words of a script can be.

A slot tells what a word has to be: "NAME" a name of any kind, "L", "C", "W", "S" and "D" the name of a lacquer, a
climate, a weather, a step set and a diary, the others what is written.
"""

from dampspells.base.errors import BadText, DampError
from dampspells.half.diary import Diary
from dampspells.half.marks import is_mark
from dampspells.web.stepset import StepSet
from dampspells.words.reading import read_climate, read_lacquer, read_number, read_numbers, read_weather

NAMED = ("L", "C", "W", "S", "D")
# What stands behind each command.
SLOTS = {
    "lacquer": ("NAME", "LACQUER"),
    "climate": ("NAME", "CLIMATE"),
    "weather": ("NAME", "WEATHER"),
    "steps": ("NAME", "STEPS"),
    "diary": ("NAME", "MARKS"),
    "join": ("NAME", "C", "C"),
    "meet": ("NAME", "C", "C"),
    "top": ("NAME", "L"),
    "wide": ("NAME", "C"),
    "ask lead": ("L", "C"),
    "ask book": ("L", "C"),
    "ask pace": ("L", "C"),
    "ask sure": ("L", "C", "NUMBER"),
    "ask spoiler": ("L", "C"),
    "ask mend": ("L", "C"),
    "ask rule": ("L", "C", "W"),
    "ask row": ("L", "W"),
    "ask ways": ("L", "W"),
    "ask part": ("C", "C"),
    "ask alike": ("C", "C"),
    "ask kept": ("S", "C"),
    "ask blame": ("S", "C"),
    "ask worlds": ("D", "L", "C"),
    "ask sharp": ("D", "L", "C"),
    "ask letters": ("D", "L", "C", "NUMBER"),
}
# What each definition gives a name to.
DEFINED = {"lacquer": "L", "climate": "C", "weather": "W", "steps": "S", "diary": "D", "join": "C", "meet": "C",
           "top": "C", "wide": "C"}
ASK = "ask"
LETTERS = "abcdefghijklmnopqrstuvwxyz"
MOST_LETTERS = 8


def command_of(words):
    """The command with which a line of these words begins: the word "ask" and the next one, or one word alone."""
    return " ".join(words[:2]) if words[0] == ASK else words[0]


def slotted(words):
    """The pairs (slot, word) of what stands behind the command; None if these are not the words of a command."""
    command = command_of(words)
    slots = SLOTS.get(command, ())
    rest = words[len(command.split(" ")):]
    if not slots or len(slots) != len(rest):
        return None
    return list(zip(slots, rest))


def fits(slot, word):
    """True if the word has the form of the slot, otherwise False."""
    try:
        read_word(slot, word)
    except BadText:
        return False
    except DampError:
        # The form is right, but a number is out of its bounds.
        return True
    return True


def read_word(slot, word):
    """The object with this text; of a name the text itself."""
    match slot:
        case "LACQUER":
            return read_lacquer(word)
        case "CLIMATE":
            return read_climate(word)
        case "WEATHER":
            return read_weather(word)
        case "STEPS":
            return StepSet(read_numbers(word))
        case "MARKS":
            return Diary(_read_signs(word, is_mark))
        case "NUMBER":
            return read_number(word)
        case _:
            return _read_name(word)


def _read_name(word):
    name = _read_signs(word, _is_letter)
    if len(name) > MOST_LETTERS:
        raise BadText(MOST_LETTERS)
    return name


def _read_signs(word, is_sign):
    """The word itself, if it has one sign or more and each one is as the function says."""
    for at, sign in enumerate(word):
        if not is_sign(sign):
            raise BadText(at)
    if not word:
        raise BadText(0)
    return word


def _is_letter(sign):
    return sign in LETTERS
