"""Games of a worker against the weather."""

from dampspells.base.errors import TooLarge
from dampspells.lead.sight import check_sight
from dampspells.web.sizes import check_small


def check_worker(farthest, climate, sight, most_sight):
    """Raises `BadNumber` if the sight is negative, then `TooLarge` if anything is too large for a game."""
    check_sight(sight)
    check_small(farthest, climate)
    if sight > most_sight:
        raise TooLarge(f"the sight is greater than {most_sight}")


def lost_stands(moves):
    """A dict of the stands from which no way of choosing goes on for ever, whatever signs come.

    For each stand, `moves` has a list with an item for each sign that can come: the list of the stands among which the
    worker can choose then, each one once.
    """
    uses = _uses(moves)
    open_choices = {stand: [len(choices) for choices in branches] for stand, branches in moves.items()}
    lost = {stand: True for stand, counts in open_choices.items() if 0 in counts}
    fresh = list(lost)
    while fresh:
        gone = fresh.pop()
        for stand, at in uses.get(gone, []):
            open_choices[stand][at] = open_choices[stand][at] - 1
            if open_choices[stand][at] == 0 and stand not in lost:
                lost[stand] = True
                fresh.append(stand)
    return lost


def _uses(moves):
    """For each stand the pairs of a stand and the index of a sign after which it can be chosen there."""
    uses = {}
    for stand, branches in moves.items():
        for at, choices in enumerate(branches):
            for choice in choices:
                uses.setdefault(choice, []).append((stand, at))
    return uses
