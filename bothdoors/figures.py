"""Whole numbers as texts write them."""

MOST_FIGURES = 9
FIGURES = "0123456789"


def whole(figures):
    """The number, from 0 on, that is written so; None where none is."""
    # Signs are looked up here, as Python's own reading lets by more: blanks, `_`, a `+`, figures of other scripts.
    if not 1 <= len(figures) <= MOST_FIGURES or not all([sign in FIGURES for sign in figures]):
        return None
    if len(figures) > 1 and figures[0] == "0":
        return None
    return int(figures)


def signed(word):
    """The number, perhaps below 0, that is written so; None where none is."""
    if not word.startswith("-"):
        return whole(word)
    number = whole(word[1:])
    return -number if number else None
