"""Worlds: of each post of a web its right arm; and what is walked in one."""

from woundwalks.errors import NoNumber
from woundwalks.webs import goal_crossings
from woundwalks.words import is_whole


def is_world(web, thing):
    """Whether it is a world of the web; of anything as thing."""
    posts = web[1]
    if not isinstance(thing, tuple) or len(thing) != len(posts):
        return False
    return all([is_whole(arm) and arm in post[2] for post, arm in zip(posts, thing)])


def count_worlds(web):
    """How many worlds the web has."""
    many = 1
    for post in web[1]:
        many *= len(post[2])
    return many


def world_at(web, number):
    """The so-manieth world of the web, as they rise."""
    if not is_whole(number) or not 0 <= number < count_worlds(web):
        raise NoNumber(number)
    world = []
    rest = number
    for post in reversed(web[1]):
        rest, at = divmod(rest, len(post[2]))
        world.append(post[2][at])
    return tuple(reversed(world))


def number_of(web, world):
    """Which one of the web's worlds it is, as they rise."""
    number = 0
    for post, arm in zip(web[1], world):
        number = number * len(post[2]) + post[2].index(arm)
    return number


def right_arms(web, world):
    """Of each post's (crossing, NAME) the arm that is right in the world."""
    return {post[:2]: arm for post, arm in zip(web[1], world)}


def right_posts(web, world):
    """The web's posts, each with its right arm alone."""
    return tuple([(*post[:2], (arm,)) for post, arm in zip(web[1], world)])


def gone_by(right, start, row):
    """The crossings from start on that are come to, name by name, by right arms."""
    come_to = [start]
    for name in row:
        if (come_to[-1], name) not in right:
            break
        come_to.append(right[(come_to[-1], name)])
    return tuple(come_to)


def gone(web, world, start, row):
    """The crossings from start on that are come to in the world, name by name, as far as posts stand."""
    return gone_by(right_arms(web, world), start, row)


def starts(web, world, row, *, goals=None):
    """The rising tuple of the crossings from which the row is walked to one of the goals."""
    right = right_arms(web, world)
    ends = goal_crossings(web, goals)
    found = []
    for start in range(web[0]):
        come_to = gone_by(right, start, row)
        if len(come_to) == len(row) + 1 and come_to[-1] in ends:
            found.append(start)
    return tuple(found)
