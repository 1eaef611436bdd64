"""Whole numbers, NAMEs, rows and words, and how one winds back in a word."""

from woundwalks.errors import NoPlace

LETTERS = "abcdefghijklmnopqrstuvwxyz"
FIGURES = "0123456789"
LONGEST_NAME = 6
LONGEST_ROW = 400
LONGEST_WORD = 12


def is_whole(thing):
    """Whether it is an int that is no truth."""
    return isinstance(thing, int) and not isinstance(thing, bool)


def is_name(thing):
    """Whether it is a text of one to six letters from a to z."""
    if not isinstance(thing, str) or not 1 <= len(thing) <= LONGEST_NAME:
        return False
    return all([letter in LETTERS for letter in thing])


def is_rising(things):
    """Whether things that can be compared stand in order, each once."""
    return all([things[at] < things[at + 1] for at in range(len(things) - 1)])


def is_below(many, thing):
    """Whether it is one of the whole numbers from 0 on below many; of anything as thing."""
    return is_whole(thing) and 0 <= thing < many


def is_rising_below(many, thing):
    """Whether it is a rising tuple of unlike whole numbers below many; of anything as thing."""
    if not isinstance(thing, tuple) or not all([is_below(many, part) for part in thing]):
        return False
    return is_rising(thing)


def is_row(thing):
    """Whether it is a tuple of at most 400 NAMEs; of anything."""
    if not isinstance(thing, tuple) or len(thing) > LONGEST_ROW:
        return False
    return all([is_name(part) for part in thing])


def is_word(thing):
    """Whether it is a row of at most 12 NAMEs; of anything."""
    return is_row(thing) and len(thing) <= LONGEST_WORD


def is_place(word, thing):
    """Whether it is a place of the word; of anything as thing."""
    return is_whole(thing) and 0 <= thing <= len(word)


def check_place(word, place):
    """Refuse what is no place of the word."""
    if not is_place(word, place):
        raise NoPlace(place)


def backs(word, place):
    """The lesser places, rising, to which one may wind back from this one."""
    check_place(word, place)
    return tuple([at for at in range(1, place) if word[at - 1] == word[place - 1]])


def here_or_back(word, place):
    """The place and its backs, rising."""
    return backs(word, place) + (place,)


def going_places(word, place):
    """The places, rising, at which one may go a name next when one has come to this place."""
    return tuple([at for at in here_or_back(word, place) if at < len(word)])
