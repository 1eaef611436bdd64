"""Tables: rows (KEY, NAME, KEY), some of which claim the same; and the webs of them."""

from woundwalks.webs import MOST_ARMS, MOST_CROSSINGS, MOST_POSTS, check_few
from woundwalks.words import FIGURES, LETTERS, is_name

LONGEST_KEY = 12
MOST_ROWS = 200


def is_key(thing):
    """Whether it is a text of one to twelve letters from a to z and figures; of anything."""
    if not isinstance(thing, str) or not 1 <= len(thing) <= LONGEST_KEY:
        return False
    return all([sign in LETTERS or sign in FIGURES for sign in thing])


def is_table_row(thing):
    """Whether it can be a row of a table; of anything."""
    if not isinstance(thing, tuple) or len(thing) != 3:
        return False
    key, name, last = thing
    return is_key(key) and is_name(name) and is_key(last)


def is_table(thing):
    """Whether it is a table; of anything."""
    if not isinstance(thing, tuple) or len(thing) > MOST_ROWS:
        return False
    return all([is_table_row(part) for part in thing])


def keys_of(table):
    """The rising tuple of all its KEYs."""
    return tuple(sorted(set([key for first, name, last in table for key in (first, last)])))


def key_numbers(table):
    """Of each KEY its number in their order, which is its crossing in the table's web."""
    return {key: number for number, key in enumerate(keys_of(table))}


def last_keys(table):
    """Of each (KEY, NAME), rising, the rising tuple of its last KEYs."""
    found = {}
    for key, name, last in sorted(set(table)):
        found.setdefault((key, name), []).append(last)
    return {spot: tuple(lasts) for spot, lasts in found.items()}


def clashes(table):
    """The rising tuple of the (KEY, NAME) that have unlike last KEYs."""
    return tuple([spot for spot, lasts in last_keys(table).items() if len(lasts) > 1])


def web_of(table):
    """The web with a crossing for each KEY, by their order, and a post for each (KEY, NAME)."""
    numbers = key_numbers(table)
    claimed = last_keys(table)
    check_few(len(numbers), MOST_CROSSINGS)
    check_few(len(claimed), MOST_POSTS)
    for lasts in claimed.values():
        check_few(len(lasts), MOST_ARMS)
    posts = []
    for (key, name), lasts in claimed.items():
        posts.append((numbers[key], name, tuple([numbers[last] for last in lasts])))
    return (len(numbers), tuple(posts))
