"""All ways from letter to letter by which worlds fit a diary.

The state after an hour is a pair (sky, age): the sky after it and the number of hours since the last coat.
"""

from dampspells.half.marks import COAT, LETTERS, allows_letter
from dampspells.sky.follow import FIRST_SKY, next_skies
from dampspells.sky.weather import DRY


class Paths:
    """The ways through the hours of a diary; `many` is their number, `start` the state after hour 1."""

    def __init__(self, diary, lacquer, climate):
        self.start = (FIRST_SKY, 0)
        layers, ends = _layers(diary, lacquer, climate, self.start)
        moves = []
        counts = [{state: 1 for state in ends}]
        for layer in reversed(layers):
            moves.append(_moves_that_last(layer, counts[-1]))
            counts.append(_counts_before(moves[-1], counts[-1]))
        # At the index h - 1: the moves from the states after hour h, and in how many ways each of them goes on.
        self._moves = moves[::-1]
        self._counts = counts[::-1]
        self.many = self._counts[0].get(self.start, 0)

    def moves_on(self, hour, state):
        """The pairs (letter, state) of the next hour after this state of the hour, in the order of the letters."""
        return self._moves[hour - 1][state]

    def text_at(self, place):
        """The letters of the way with this place."""
        text = COAT
        state = self.start
        left = place
        for counts in self._counts[1:]:
            for letter, after in self.moves_on(len(text), state):
                if left < counts[after]:
                    break
                left = left - counts[after]
            text = text + letter
            state = after
        return text

    def letters_of(self, hour):
        """The letters of the hour, in their order."""
        if hour == 1:
            return [COAT]
        found = {letter: True for moves in self._moves[hour - 2].values() for letter, _ in moves}
        return [letter for letter in LETTERS if letter in found]

    def coats_by(self, hour):
        """The pair of the least and the greatest number of coats in the hours from 2 up to this one."""
        bounds = {self.start: (0, 0)}
        for layer in self._moves[:hour - 1]:
            bounds = _bounds_after(layer, bounds)
        return (min([least for least, _ in bounds.values()]), max([most for _, most in bounds.values()]))


def _layers(diary, lacquer, climate, start):
    """For each hour but the last one a dict: the moves from the states after it; and the states after the last one."""
    known = {}
    layers = []
    states = [start]
    for mark in diary.marks[1:]:
        layer = {}
        for state in states:
            if state not in known:
                known[state] = _all_moves(lacquer, climate, state)
            layer[state] = [(letter, after) for letter, after in known[state] if allows_letter(mark, letter)]
        layers.append(layer)
        states = list({after: True for moves in layer.values() for _, after in moves})
    return (layers, states)


def _all_moves(lacquer, climate, state):
    sky, age = state
    moves = []
    for sign, after in next_skies(climate, sky):
        if sign == DRY and age + 1 in lacquer:
            moves.append((COAT, (after, 0)))
        # Otherwise the next coat must still be possible in a later hour.
        if age + 1 < lacquer.b:
            moves.append((sign, (after, age + 1)))
    return moves


def _moves_that_last(layer, counts):
    return {state: [(letter, after) for letter, after in moves if after in counts] for state, moves in layer.items()}


def _counts_before(layer, counts):
    return {state: sum([counts[after] for _, after in moves]) for state, moves in layer.items() if moves}


def _bounds_after(layer, bounds):
    later = {}
    for state, (least, most) in bounds.items():
        for letter, after in layer[state]:
            more = 1 if letter == COAT else 0
            low, high = later.get(after, (least + more, most + more))
            later[after] = (min(low, least + more), max(high, most + more))
    return later
