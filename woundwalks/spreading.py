"""How marks spread from the goals back through a web, round by round."""

from woundwalks.words import backs


def post_needs(posts, word):
    """Of each (crossing, place) of a post how many marks it needs, and of each mark by which posts it's needed."""
    missing = {}
    needed_by = {}
    for crossing, name, arms in posts:
        for place in range(len(word)):
            if word[place] == name:
                missing[(crossing, place)] = len(arms)
                for arm in arms:
                    needed_by.setdefault((arm, place + 1), []).append((crossing, place))
    return missing, needed_by


def places_winding_to(word):
    """Of each place those, rising, from which one may wind back to it."""
    winding = [[] for place in range(len(word) + 1)]
    for place in range(len(word) + 1):
        for back in backs(word, place):
            winding[back].append(place)
    return winding


def completed(marked, missing, needed_by):
    """The (crossing, place), rising, of posts that got the last mark that they need by these."""
    found = []
    for mark in marked:
        for post in needed_by.get(mark, ()):
            missing[post] -= 1
            if missing[post] == 0:
                found.append(post)
    return sorted(found)


def spread(posts, word, ends):
    """The rounds of marks that spread from the ends: a list of dicts from each mark to its ground.

    Each mark stands behind those that its ground leans on.
    """
    missing, needed_by = post_needs(posts, word)
    winding = places_winding_to(word)
    known = {}
    found = []
    fresh = {(crossing, len(word)): ("end",) for crossing in ends}
    while fresh:
        found.append(fresh)
        for mark in fresh:
            known[mark] = True
        by_posts = [mark for mark in completed(fresh, missing, needed_by) if mark not in known]
        fresh = {mark: ("post",) for mark in by_posts}
        # Who winds back twice could do so at once: so the marks by posts are all that need be looked at.
        for crossing, back in by_posts:
            for place in winding[back]:
                if (crossing, place) not in known and (crossing, place) not in fresh:
                    fresh[(crossing, place)] = ("back", back)
    return found


def marks_in(found):
    """The rising tuple of all marks of these rounds."""
    return tuple(sorted([mark for fresh in found for mark in fresh]))


def round_numbers(found):
    """Of each mark of these rounds the number of its round."""
    return {mark: number for number, fresh in enumerate(found) for mark in fresh}


def grounds_in(found):
    """Of each mark of these rounds its ground."""
    return {mark: ground for fresh in found for mark, ground in fresh.items()}
