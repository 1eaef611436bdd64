"""Numbers and rows of names as texts: what they tell, None where they are of no such form."""

from woundwalks.words import FIGURES, is_name

MOST_FIGURES = 3
NOTHING = "-"


def by_blanks(parts):
    """Numbers and texts parted by one blank, `-` for none."""
    return " ".join([str(part) for part in parts]) if parts else NOTHING


def number_from(text):
    """The number that is so written, without a nought ahead, of one to three figures."""
    if not 1 <= len(text) <= MOST_FIGURES or not all([sign in FIGURES for sign in text]):
        return None
    if text[0] == "0" and len(text) > 1:
        return None
    return int(text)


def numbers_from(texts):
    """The tuple of the numbers that are so written, of no texts ()."""
    numbers = tuple([number_from(text) for text in texts])
    return None if None in numbers else numbers


def row_from(texts):
    """The tuple of these NAMEs, of whatever length, of `-` alone ()."""
    if texts == [NOTHING]:
        return ()
    return tuple(texts) if texts and all([is_name(text) for text in texts]) else None
