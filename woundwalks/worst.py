"""The world that is the worst for all places at once."""

from woundwalks.marks import marks
from woundwalks.walks import wound_places
from woundwalks.worlds import is_world


def worst_arm(marked, word, post):
    """An arm of the post that leads from no (crossing, place) that isn't marked to one that is."""
    crossing, name, arms = post
    lost = [place for place in range(len(word)) if word[place] == name and (crossing, place) not in marked]
    if not lost:
        return arms[0]
    # Behind the name one may wind back from the greatest of the places to all others:
    # so an arm with no mark at the greatest one has none at the others either.
    behind = lost[-1] + 1
    return [arm for arm in arms if (arm, behind) not in marked][0]


def worst(web, word, *, goals=None):
    """A world whose wound places are just the marks."""
    marked = {mark: True for mark in marks(web, word, goals=goals)}
    return tuple([worst_arm(marked, word, post) for post in web[1]])


def shows_worst(web, word, thing, *, goals=None):
    """Whether it is a worst world; of anything as thing."""
    if not is_world(web, thing):
        return False
    return wound_places(web, thing, word, goals=goals) == marks(web, word, goals=goals)
