"""Leadings of a web into another one, and which crossings of the one may follow which of the other."""

from woundwalks.webs import goal_crossings, posted_arms
from woundwalks.words import is_below


def is_led_on(standing, thing, crossing, name, arms):
    """Whether the post of this name stands at the crossing, each of its arms being led to one of these."""
    if (crossing, name) not in standing:
        return False
    return all([thing[arm] in arms for arm in standing[(crossing, name)]])


def is_leading(web, other, thing):
    """Whether it is a leading of the web into the other one; of anything as thing."""
    if not isinstance(thing, tuple) or len(thing) != web[0]:
        return False
    if not all([is_below(other[0], part) for part in thing]):
        return False
    standing = posted_arms(web)
    for at, name, arms in other[1]:
        led_there = [crossing for crossing in range(web[0]) if thing[crossing] == at]
        if not all([is_led_on(standing, thing, crossing, name, arms) for crossing in led_there]):
            return False
    return True


def bare_pairs(web, other):
    """The (c, e), rising, of which c lacks a post that the other web has at e."""
    standing = posted_arms(web)
    bare = [(c, e) for c in range(web[0]) for e, name, arms in other[1] if (c, name) not in standing]
    return sorted(set(bare))


def like_posts(web, other):
    """Of each two posts of one NAME, one of either web: the (c, e, NAME) of both, the arms here, the arms there."""
    found = []
    for c, name, arms in web[1]:
        found += [((c, e, name), arms, others) for e, called, others in other[1] if called == name]
    return found


def arm_needs(web, other):
    """Of each two like posts and arm here how many arms there go with it, and of each two arms by which it's needed."""
    left = {}
    needed_by = {}
    for both, arms, others in like_posts(web, other):
        for d in arms:
            need = (*both, d)
            left[need] = len(others)
            for g in others:
                needed_by.setdefault((d, g), []).append(need)
    return left, needed_by


def follows(web, other):
    """The rising tuple of the greatest set of (c, e) of which c has each post of e, and each arm one to go with."""
    left, needed_by = arm_needs(web, other)
    line = bare_pairs(web, other)
    lost = {pair: True for pair in line}
    # Lost is only what must be, for what was lost ahead of it: all else together is such a set.
    while line:
        last_lost = line.pop()
        for need in needed_by.get(last_lost, ()):
            left[need] -= 1
            if left[need] == 0 and need[:2] not in lost:
                lost[need[:2]] = True
                line.append(need[:2])
    return tuple([(c, e) for c in range(web[0]) for e in range(other[0]) if (c, e) not in lost])


def led(web, other, thing, goals):
    """The rising tuple of the crossings that the leading leads to these goals of the other web."""
    ends = goal_crossings(other, goals)
    return tuple([crossing for crossing in range(web[0]) if thing[crossing] in ends])
