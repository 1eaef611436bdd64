"""Looking at wound walks."""

from woundwalks.webs import goal_crossings
from woundwalks.words import going_places, is_place, is_whole
from woundwalks.worlds import right_arms


def is_step(thing):
    """Whether it is a pair of whole numbers; of anything."""
    return isinstance(thing, tuple) and len(thing) == 2 and is_whole(thing[0]) and is_whole(thing[1])


def shows_walk(web, world, word, crossing, thing, *, place=0, goals=None):
    """Whether it is a wound walk from there that ends well; of anything as thing."""
    if not isinstance(thing, tuple) or not is_place(word, place):
        return False
    right = right_arms(web, world)
    here, at = crossing, place
    for step in thing:
        if not is_step(step) or step[0] not in going_places(word, at):
            return False
        if right.get((here, word[step[0]])) != step[1]:
            return False
        here, at = step[1], step[0] + 1
    return at == len(word) and here in goal_crossings(web, goals)
