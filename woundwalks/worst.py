"""The world that is the worst for all places at once."""

from woundwalks.askers import asker_of
from woundwalks.marks import marks
from woundwalks.walks import wound_places
from woundwalks.worlds import is_world
from woundwalks.worsening import worst_world


def worst(web, word, *, goals=None):
    """A world whose wound places are just the marks."""
    return worst_world(web, asker_of(word), marks(web, word, goals=goals))


def shows_worst(web, word, thing, *, goals=None):
    """Whether it is a worst world; of anything as thing."""
    if not is_world(web, thing):
        return False
    return wound_places(web, thing, word, goals=goals) == marks(web, word, goals=goals)
