"""Wound walks of a word in one world."""

from woundwalks.askers import asker_of
from woundwalks.spreading import marks_in, round_numbers, spread_in_world
from woundwalks.words import going_places
from woundwalks.worlds import right_arms


def wound_places(web, world, word, *, goals=None):
    """The rising tuple of all (crossing, place) from which a wound walk ends well."""
    return marks_in(spread_in_world(web, world, asker_of(word), goals))


def least_step(right, fewest, word, crossing, place):
    """The least (place, crossing) by which one step fewer is left."""
    left = fewest[(crossing, place)] - 1
    for at in going_places(word, place):
        come_to = right.get((crossing, word[at]))
        # No post: None, of which no steps are told.
        if fewest.get((come_to, at + 1)) == left:
            return (at, come_to)
    return None


def wound_walk(web, world, word, crossing, *, place=0, goals=None):
    """Of the wound walks from there that end well one of the fewest steps, of these the least; None."""
    fewest = round_numbers(spread_in_world(web, world, asker_of(word), goals))
    if (crossing, place) not in fewest:
        return None
    right = right_arms(web, world)
    steps = []
    here, at = crossing, place
    for left in range(fewest[(crossing, place)]):
        step = least_step(right, fewest, word, here, at)
        steps.append(step)
        here, at = step[1], step[0] + 1
    return tuple(steps)


def row_of(word, walk):
    """The row of the names gone by the walk's steps."""
    return tuple([word[place] for place, crossing in walk])
