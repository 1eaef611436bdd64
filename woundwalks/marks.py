"""Marks: the places from which a wound walk ends well whichever arms are right."""

from woundwalks.spreading import marks_in, round_numbers, spread
from woundwalks.webs import goal_crossings


def spread_in_web(web, word, goals):
    """The rounds of marks of the web, each mark with its ground."""
    return spread(web[1], word, goal_crossings(web, goals))


def marks(web, word, *, goals=None):
    """The rising tuple of the marks."""
    return marks_in(spread_in_web(web, word, goals))


def rounds(web, word, *, goals=None):
    """The tuple of the rounds of marks, each a rising tuple."""
    return tuple([tuple(sorted(fresh)) for fresh in spread_in_web(web, word, goals)])


def round_of(web, word, crossing, place, *, goals=None):
    """The number of the round of this mark, None of no mark."""
    return round_numbers(spread_in_web(web, word, goals)).get((crossing, place))


def marks_paper(web, word, *, goals=None):
    """A paper of all marks."""
    found = spread_in_web(web, word, goals)
    return tuple([(*mark, ground) for fresh in found for mark, ground in fresh.items()])
