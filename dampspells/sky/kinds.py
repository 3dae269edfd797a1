"""Kinds of spells: pairs (w, g) for at most w damp hours after a run of at least g hours."""

from dampspells.base.errors import BadKind

MOST_SPELL = 16
MOST_RUN = 120
MOST_KINDS = 300


def check_kind(w, g):
    """Raises `BadKind` if (w, g) is not a kind."""
    if not 1 <= w <= MOST_SPELL or not 1 <= g <= MOST_RUN:
        raise BadKind(f"({w}, {g}) is not a kind")


def check_kinds(kinds):
    """Raises `BadKind` if these are too many pairs for a climate or one of them is not a kind."""
    if len(kinds) > MOST_KINDS:
        raise BadKind(f"{len(kinds)} kinds are too many for a climate")
    for w, g in kinds:
        check_kind(w, g)


def plain_list(kinds):
    """The list of the kinds that are not needless beside a different one, in ascending order."""
    least = {}
    for w, g in kinds:
        least[w] = min(g, least.get(w, g))
    plain = []
    for w in sorted(least, reverse=True):
        # Spells that are longer still need plain[-1][1] dry hours at least; only fewer are worth a kind.
        if not plain or least[w] < plain[-1][1]:
            plain.append((w, least[w]))
    return plain[::-1]
