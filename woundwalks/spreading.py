"""How marks spread from the goals back through a web, round by round: of an asker, or of a word as one."""

from woundwalks.webs import goal_crossings
from woundwalks.worlds import right_posts


def post_needs(posts, ways):
    """Of each post and way by it how many marks it needs, and of each mark by which of these it's needed."""
    missing = {}
    needed_by = {}
    for crossing, name, arms in posts:
        for stand, called, to in ways:
            if called == name:
                missing[(crossing, stand, to)] = len(arms)
                for arm in arms:
                    needed_by.setdefault((arm, to), []).append((crossing, stand, to))
    return missing, needed_by


def completed(marked, missing, needed_by):
    """The (crossing, stand), rising, of posts and ways that got the last mark that they need by these."""
    found = {}
    for mark in marked:
        for going in needed_by.get(mark, ()):
            missing[going] -= 1
            if missing[going] == 0:
                found[going[:2]] = True
    return sorted(found)


def higher_stands(rows):
    """Of each stand of a row those from which one may step back to it."""
    return {stand: stands[at + 1:] for name, stands in rows for at, stand in enumerate(stands)}


def with_higher(begun, ground, higher, known):
    """These marks, of this ground, and those, not known yet, that come with them by stepping back."""
    fresh = {mark: ground for mark in begun}
    # Who steps back twice could do so at once: so these marks are all that need be looked at.
    for crossing, back in begun:
        for stand in higher.get(back, ()):
            if (crossing, stand) not in known and (crossing, stand) not in fresh:
                fresh[(crossing, stand)] = ("back", back)
    return fresh


def spread(posts, asker, ends):
    """The rounds of marks that spread from the ends: a list of dicts from each mark to its ground.

    Each mark stands behind those that its ground leans on.
    """
    many, ways, goods, rows = asker
    missing, needed_by = post_needs(posts, ways)
    higher = higher_stands(rows)
    known = {}
    found = []
    fresh = with_higher([(crossing, good) for crossing in ends for good in goods], ("end",), higher, known)
    while fresh:
        found.append(fresh)
        for mark in fresh:
            known[mark] = True
        begun = [mark for mark in completed(fresh, missing, needed_by) if mark not in known]
        fresh = with_higher(begun, ("post",), higher, known)
    return found


def spread_in_web(web, asker, goals):
    """The rounds of marks of the web."""
    return spread(web[1], asker, goal_crossings(web, goals))


def spread_in_world(web, world, asker, goals):
    """The rounds of marks where each post has but its right arm: their numbers are the fewest steps."""
    return spread(right_posts(web, world), asker, goal_crossings(web, goals))


def marks_in(found):
    """The rising tuple of all marks of these rounds."""
    return tuple(sorted([mark for fresh in found for mark in fresh]))


def round_numbers(found):
    """Of each mark of these rounds the number of its round."""
    return {mark: number for number, fresh in enumerate(found) for mark in fresh}


def grounds_in(found):
    """Of each mark of these rounds its ground."""
    return {mark: ground for fresh in found for mark, ground in fresh.items()}
