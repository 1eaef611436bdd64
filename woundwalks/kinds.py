"""Firm, late and steady words, with papers of it."""

from woundwalks.searching import first_row
from woundwalks.seeing import NOTHING_SEEN, seen_next
from woundwalks.winding import greatest_steps
from woundwalks.words import here_or_back


def lacking(word, kind):
    """The shortest, least wound row that lacks the word so, None where the word is of this kind."""
    steps = greatest_steps(word)

    def steps_from(here):
        place, seen = here
        return [(name, (to, seen_next(word, kind, seen, name))) for name, to in steps[place].items()]

    def has_ended_without(here):
        place, seen = here
        return place == len(word) and seen != len(word)

    return first_row((0, NOTHING_SEEN), steps_from, has_ended_without)


def is_kind(word, kind):
    """Whether the word is of this kind."""
    return lacking(word, kind) is None


def reached_pairs(word, kind):
    """The rising tuple of all (place, seen) that wound rows, or beginnings of them, come to."""
    begin = (0, NOTHING_SEEN)
    reached = {begin: True}
    line = [begin]
    while line:
        place, seen = line.pop()
        if place == len(word):
            continue
        then = seen_next(word, kind, seen, word[place])
        for to in here_or_back(word, place + 1):
            if (to, then) not in reached:
                reached[(to, then)] = True
                line.append((to, then))
    return tuple(sorted(reached))


def kind_paper(word, kind):
    """A paper that shows that the word is of this kind, or that it isn't."""
    row = lacking(word, kind)
    if row is None:
        return ("so", reached_pairs(word, kind))
    return ("not", row)
