"""Two webs of as many crossings beside one another: which knows more, and what both or either know."""

from woundwalks.errors import Clash
from woundwalks.webs import MOST_ARMS, MOST_POSTS, check_few, posted_arms


def knows_more(one, other):
    """Whether each post of the other web stands in the one, with no arms but such as it has in the other."""
    known = posted_arms(one)
    for crossing, name, arms in other[1]:
        if (crossing, name) not in known:
            return False
        if not all([arm in arms for arm in known[(crossing, name)]]):
            return False
    return True


def alike(some, others):
    """The arms that are among both."""
    return tuple([arm for arm in some if arm in others])


def narrowed(one, other):
    """The web of the posts of either, where both have one with the arms that are alike."""
    known = posted_arms(one)
    for crossing, name, arms in other[1]:
        left = alike(known.get((crossing, name), arms), arms)
        if not left:
            raise Clash(crossing, name)
        known[(crossing, name)] = left
    check_few(len(known), MOST_POSTS)
    return (one[0], tuple([(*spot, known[spot]) for spot in sorted(known)]))


def common(one, other):
    """The web of the posts that stand in both, with the arms of either."""
    known = posted_arms(one)
    posts = []
    for crossing, name, arms in other[1]:
        if (crossing, name) in known:
            either = tuple(sorted(set(arms + known[(crossing, name)])))
            check_few(len(either), MOST_ARMS)
            posts.append((crossing, name, either))
    return (one[0], tuple(posts))
