"""Askers in webs: from where they are read in one world, and whichever arms are right."""

from woundwalks.spreading import marks_in, spread_in_web, spread_in_world
from woundwalks.worlds import is_world
from woundwalks.worsening import worst_world


def asked_places(web, world, asker, *, goals=None):
    """The rising tuple of the (crossing, stand) from which a row that the asker reads is walked to a goal."""
    return marks_in(spread_in_world(web, world, asker, goals))


def asked_marks(web, asker, *, goals=None):
    """The rising tuple of the asked marks."""
    return marks_in(spread_in_web(web, asker, goals))


def asked_worst(web, asker, *, goals=None):
    """A world whose asked places are just the asked marks."""
    return worst_world(web, asker, asked_marks(web, asker, goals=goals))


def shows_asked(web, asker, thing, *, goals=None):
    """Whether it is a world whose asked places are just the asked marks; of anything as thing."""
    if not is_world(web, thing):
        return False
    return asked_places(web, thing, asker, goals=goals) == asked_marks(web, asker, goals=goals)
