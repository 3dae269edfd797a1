"""Letters, which tell what happens in an hour, and marks, each of which allows some of them."""

from dampspells.sky.weather import DAMP, DRY

COAT = "c"
LETTERS = (COAT, DRY, DAMP)
ANY = "?"
ALLOWED = {"c": "c", ".": ".", "#": "#", "o": "c.", "-": ".#", "x": "c#", "?": "c.#"}


def is_mark(mark):
    """True if the text is one of the marks, otherwise False."""
    return mark in ALLOWED


def allows_letter(mark, letter):
    """True if the mark allows the letter, otherwise False."""
    return letter in LETTERS and letter in ALLOWED[mark]


def mark_of(letters):
    """The mark that allows exactly these letters, which are in their order; None if there are none."""
    text = "".join(letters)
    for mark in ALLOWED:
        if ALLOWED[mark] == text:
            return mark
    return None


def common_mark(one, other):
    """The mark that allows exactly the letters that both marks allow, or None."""
    return mark_of([letter for letter in LETTERS if allows_letter(one, letter) and allows_letter(other, letter)])
