"""Scripts: definitions and questions, line by line."""

from dampspells.base.errors import DampError, TooLarge
from dampspells.shop.answers import result
from dampspells.shop.slots import DEFINED, NAMED, command_of, fits, read_word, slotted


def line_words(line):
    """The list of the words of a line whose form is right, otherwise None."""
    if line == "":
        return []
    words = line.split(" ")
    pairs = slotted(words)
    if pairs is None or not all([fits(slot, word) for slot, word in pairs]):
        return None
    return words


def run(text, *, quiet=False):
    """The list of the answers of a script, those of bad lines only if it is not quiet."""
    shelf = {kind: {} for kind in NAMED}
    answers = []
    for number, line in enumerate(text.split("\n"), start=1):
        answer, fault = _obeyed(line, shelf)
        if fault is not None and not quiet:
            answers.append(f"line {number}: {fault}")
        if answer is not None:
            answers.append(answer)
    return answers


def _obeyed(line, shelf):
    """The pair of the answer to the line and the reason why it is bad; each of them may be None."""
    words = line_words(line)
    if words == []:
        return (None, None)
    if words is None:
        return (None, "form")
    pairs = slotted(words)
    if not all([word in shelf[slot] for slot, word in pairs if slot in NAMED]):
        return (None, "name")
    try:
        return (_answer(command_of(words), pairs, shelf), None)
    except TooLarge:
        return (None, "large")
    except DampError:
        return (None, "value")


def _answer(command, pairs, shelf):
    """The answer to a question; a definition is put on the shelf and has none."""
    values = [shelf[slot][word] if slot in NAMED else read_word(slot, word) for slot, word in pairs]
    if command not in DEFINED:
        return result(command, values)
    kind = DEFINED[command]
    shelf[kind][values[0]] = result(command, values[1:])
    return None
