"""Looking at papers of words and kinds."""

from woundwalks.seeing import LEFT, NOTHING_SEEN, seen_behind, seen_next
from woundwalks.winding import is_wound
from woundwalks.words import here_or_back, is_place, is_rising, is_row, is_whole


def is_pair(word, kind, thing):
    """Whether it is a (place, seen) of the word and the kind; of anything as thing."""
    if not isinstance(thing, tuple) or len(thing) != 2:
        return False
    place, seen = thing
    if not is_place(word, place) or not is_whole(seen):
        return False
    least = LEFT if kind == "firm" else NOTHING_SEEN
    return least <= seen <= len(word)


def is_closed(word, kind, pairs):
    """Whether the pairs have their beginning, all that follows from each of them, and no bad end."""
    has = {pair: True for pair in pairs}
    if (0, NOTHING_SEEN) not in has:
        return False
    for place, seen in pairs:
        if place == len(word):
            if seen != len(word):
                return False
            continue
        then = seen_next(word, kind, seen, word[place])
        if not all([(to, then) in has for to in here_or_back(word, place + 1)]):
            return False
    return True


def shows_so(word, kind, thing):
    """Whether it is a rising tuple of pairs that is shut; of anything as thing."""
    if not isinstance(thing, tuple) or not all([is_pair(word, kind, part) for part in thing]):
        return False
    return is_rising(thing) and is_closed(word, kind, thing)


def shows_not(word, kind, thing):
    """Whether it is a wound row that lacks the word so; of anything as thing."""
    if not is_row(thing) or not is_wound(word, thing):
        return False
    return seen_behind(word, kind, thing) != len(word)


def shows_kind(word, kind, thing):
    """Whether it is a paper of the word and the kind; of anything as thing."""
    if not isinstance(thing, tuple) or len(thing) != 2 or not isinstance(thing[0], str):
        return False
    if thing[0] == "so":
        return shows_so(word, kind, thing[1])
    return thing[0] == "not" and shows_not(word, kind, thing[1])
