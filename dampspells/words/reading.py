"""Reads lacquers, climates, weathers and numbers."""

from dampspells.base.errors import BadText
from dampspells.base.lacquer import Lacquer
from dampspells.sky.climate import Climate
from dampspells.sky.weather import Weather

DIGITS = "0123456789"
MOST_DIGITS = 6
NO_KINDS = "dry"


def read_lacquer(text):
    """The lacquer with this text."""
    a, b = _read_numbers(text, ("-", None))
    return Lacquer(a, b)


def read_climate(text):
    """The climate with this text."""
    if text == NO_KINDS:
        return Climate.dry()
    if text.startswith(NO_KINDS[0]):
        raise BadText(_common_beginning(text, NO_KINDS))
    numbers = _read_numbers(text, ("/", "+"))
    return Climate(list(zip(numbers[::2], numbers[1::2])))


def read_weather(text):
    """The weather with this text."""
    return Weather(read_numbers(text))


def read_numbers(text):
    """The list of the numbers of a text `NUMBER,NUMBER,..`."""
    return _read_numbers(text, (",",))


def read_number(text):
    """The number of a text that is one NUMBER."""
    return _read_numbers(text, (None,))[0]


def _read_numbers(text, marks):
    """The numbers of a text in which each one is followed by the next of the marks, or by the end of the text.

    After the last mark the first one is next; no sign fits the mark None. The text may end only where that is due.
    """
    numbers = []
    at = 0
    while True:
        end = _number_end(text, at)
        if end == at:
            raise BadText(at)
        numbers.append(int(text[at:end]))
        if text[end:end + 1] != marks[(len(numbers) - 1) % len(marks)]:
            break
        at = end + 1
    if end < len(text) or len(numbers) % len(marks) != 0:
        raise BadText(end)
    return numbers


def _number_end(text, start):
    """The place behind the longest NUMBER that starts at this place; the place itself if none does."""
    if text[start:start + 1] == "0":
        return start + 1
    end = start
    while end < len(text) and end - start < MOST_DIGITS and text[end] in DIGITS:
        end = end + 1
    return end


def _common_beginning(one, other):
    """The number of characters of the longest common beginning."""
    many = 0
    while many < min(len(one), len(other)) and one[many] == other[many]:
        many = many + 1
    return many
