"""Firm, late and steady words, with papers of it."""

from woundwalks.seeing import NOTHING_SEEN, seen_next
from woundwalks.winding import greatest_steps
from woundwalks.words import here_or_back


def lacking(word, kind):
    """The shortest, least wound row that lacks the word so, None where the word is of this kind."""
    steps = greatest_steps(word)
    begin = (0, NOTHING_SEEN)
    rows = {begin: ()}
    line = [begin]
    at = 0
    # The line holds what is come to by the fewest names first, by the least rows first:
    # so the first that has ended without the word was come to by the row that is sought.
    while at < len(line):
        place, seen = line[at]
        row = rows[line[at]]
        if place == len(word) and seen != len(word):
            return row
        for name, to in steps[place].items():
            come_to = (to, seen_next(word, kind, seen, name))
            if come_to not in rows:
                rows[come_to] = (*row, name)
                line.append(come_to)
        at += 1
    return None


def is_kind(word, kind):
    """Whether the word is of this kind."""
    return lacking(word, kind) is None


def reached_pairs(word, kind):
    """The rising tuple of all (place, seen) that wound rows, or beginnings of them, come to."""
    begin = (0, NOTHING_SEEN)
    reached = {begin: True}
    line = [begin]
    while line:
        place, seen = line.pop()
        if place == len(word):
            continue
        then = seen_next(word, kind, seen, word[place])
        for to in here_or_back(word, place + 1):
            if (to, then) not in reached:
                reached[(to, then)] = True
                line.append((to, then))
    return tuple(sorted(reached))


def kind_paper(word, kind):
    """A paper that shows that the word is of this kind, or that it isn't."""
    row = lacking(word, kind)
    if row is None:
        return ("so", reached_pairs(word, kind))
    return ("not", row)
