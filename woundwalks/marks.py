"""Marks: the places from which a wound walk ends well whichever arms are right."""

from woundwalks.askers import asker_of
from woundwalks.spreading import grounds_in, marks_in, round_numbers, spread_in_web


def marks(web, word, *, goals=None):
    """The rising tuple of the marks."""
    return marks_in(spread_in_web(web, asker_of(word), goals))


def rounds(web, word, *, goals=None):
    """The tuple of the rounds of marks, each a rising tuple."""
    return tuple([tuple(sorted(fresh)) for fresh in spread_in_web(web, asker_of(word), goals)])


def round_of(web, word, crossing, place, *, goals=None):
    """The number of the round of this mark, None of no mark."""
    return round_numbers(spread_in_web(web, asker_of(word), goals)).get((crossing, place))


def marks_paper(web, word, *, goals=None):
    """A paper of all marks."""
    grounds = grounds_in(spread_in_web(web, asker_of(word), goals))
    return tuple([(*mark, ground) for mark, ground in grounds.items()])
