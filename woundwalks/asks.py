"""Asks: from where, and where to, a word is to be walked."""

from woundwalks.words import is_below, is_rising_below
from woundwalks.worlds import starts

WANTED = {"somewhere": "steady", "from": "firm", "into": "late", "among": "firm"}


def is_ask(web, thing):
    """Whether it is an ask of the web; of anything as thing."""
    if not isinstance(thing, tuple) or not thing or not isinstance(thing[0], str):
        return False
    if thing[0] == "somewhere":
        return len(thing) == 1
    if len(thing) != 2:
        return False
    if thing[0] == "from":
        return is_below(web[0], thing[1])
    return thing[0] in ("into", "among") and is_rising_below(web[0], thing[1])


def wanted(ask):
    """The KIND of word that the ask wants."""
    return WANTED[ask[0]]


def asked_crossings(web, ask):
    """The crossings, rising, of which the ask wants one to walk from."""
    if ask[0] == "from":
        return (ask[1],)
    return ask[1] if ask[0] == "among" else tuple(range(web[0]))


def asked_goals(ask):
    """The goals of the ask, None where all crossings will do."""
    return ask[1] if ask[0] == "into" else None


def fails(web, world, word, ask):
    """Whether the word is not walked in the world as the ask wants it."""
    walked = starts(web, world, word, goals=asked_goals(ask))
    return not any([crossing in walked for crossing in asked_crossings(web, ask)])
