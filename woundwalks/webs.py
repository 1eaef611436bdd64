"""Webs: crossings with posts that have arms; and goals."""

from woundwalks.errors import TooMany
from woundwalks.words import is_below, is_name, is_rising, is_rising_below

MOST_CROSSINGS = 40
MOST_POSTS = 120
MOST_ARMS = 8


def check_few(many, most):
    """Refuse more than may be."""
    if many > most:
        raise TooMany(many)


def is_size(thing):
    """Whether it can be the number of crossings of a web; of anything."""
    return is_below(MOST_CROSSINGS + 1, thing)


def is_arms(n, thing):
    """Whether it can be the arms of a post in a web of n crossings; of anything as thing."""
    return is_rising_below(n, thing) and 1 <= len(thing) <= MOST_ARMS


def is_post(n, thing):
    """Whether it can be a post in a web of n crossings; of anything as thing."""
    if not isinstance(thing, tuple) or len(thing) != 3:
        return False
    crossing, name, arms = thing
    return is_below(n, crossing) and is_name(name) and is_arms(n, arms)


def is_web(thing):
    """Whether it is a web; of anything."""
    if not isinstance(thing, tuple) or len(thing) != 2:
        return False
    n, posts = thing
    if not is_size(n) or not isinstance(posts, tuple) or len(posts) > MOST_POSTS:
        return False
    if not all([is_post(n, post) for post in posts]):
        return False
    # No two posts are of one crossing and NAME: so the posts rise just where these do.
    return is_rising([post[:2] for post in posts])


def arms_of(web, crossing, name):
    """The arms of the post of this name at this crossing, () where none stands."""
    for at, called, arms in web[1]:
        if at == crossing and called == name:
            return arms
    return ()


def posted_arms(web):
    """Of each post's (crossing, NAME) its arms."""
    return {post[:2]: post[2] for post in web[1]}


def is_goals(web, thing):
    """Whether it is a rising tuple of unlike crossings of the web, or None; of anything as thing."""
    return thing is None or is_rising_below(web[0], thing)


def goal_crossings(web, goals):
    """The crossings that are goals, None being all of them."""
    return tuple(range(web[0])) if goals is None else goals
