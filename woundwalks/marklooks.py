"""Looking at papers of marks."""

from woundwalks.webs import goal_crossings, posted_arms
from woundwalks.words import backs, is_below, is_place, is_whole


def is_ground(thing):
    """Whether it is of the form of a ground; of anything."""
    if not isinstance(thing, tuple) or not thing or not isinstance(thing[0], str):
        return False
    if thing[0] == "back":
        return len(thing) == 2 and is_whole(thing[1])
    return len(thing) == 1 and thing[0] in ("end", "post")


def is_paper_row(web, word, thing):
    """Whether it is a (crossing, place, ground) of the web and the word; of anything as thing."""
    if not isinstance(thing, tuple) or len(thing) != 3:
        return False
    crossing, place, ground = thing
    return is_below(web[0], crossing) and is_place(word, place) and is_ground(ground)


def post_leads_to(standing, word, crossing, place):
    """The (crossing, place) to which the arms of the post lead that is gone by there, () where none stands."""
    if place == len(word):
        return ()
    return tuple([(arm, place + 1) for arm in standing.get((crossing, word[place]), ())])


def is_grounded(standing, word, ends, ahead, row):
    """Whether the row's ground holds, by the marks that stand ahead of it."""
    crossing, place, ground = row
    if ground[0] == "end":
        return place == len(word) and crossing in ends
    if ground[0] == "back":
        return ground[1] in backs(word, place) and (crossing, ground[1]) in ahead
    needed = post_leads_to(standing, word, crossing, place)
    return len(needed) > 0 and all([mark in ahead for mark in needed])


def shows_marks(web, word, thing, *, goals=None):
    """Whether it is a paper of marks, of any of them; of anything as thing."""
    if not isinstance(thing, tuple):
        return False
    standing = posted_arms(web)
    ends = goal_crossings(web, goals)
    ahead = {}
    for row in thing:
        if not is_paper_row(web, word, row) or row[:2] in ahead:
            return False
        if not is_grounded(standing, word, ends, ahead, row):
            return False
        ahead[row[:2]] = True
    return True
