"""Wound rows: the course of one, how many there are, and the so-manieth."""

from woundwalks.errors import NoNumber, TooMany
from woundwalks.words import check_place, going_places, is_whole

MOST_ROWS = 1000


def fitting_places(word, row):
    """Of each name of the row the places at which it may be gone so that the rest of the row ends at len."""
    going = [going_places(word, place) for place in range(len(word) + 1)]
    fitting = []
    for name in reversed(row):
        if fitting:
            rest = fitting[-1]
            leads_on = [any([at in rest for at in going[place]]) for place in range(len(word) + 1)]
        else:
            leads_on = [place == len(word) for place in range(len(word) + 1)]
        fitting.append([at for at in range(len(word)) if word[at] == name and leads_on[at + 1]])
    return list(reversed(fitting))


def course(word, row, *, place=0):
    """The least course of the word by the row from the place, None where there is none."""
    check_place(word, place)
    if not row:
        return () if place == len(word) else None
    found = []
    come_to = place
    for fitting in fitting_places(word, row):
        chances = [at for at in going_places(word, come_to) if at in fitting]
        if not chances:
            return None
        found.append(chances[0])
        come_to = chances[0] + 1
    return tuple(found)


def greatest_steps(word):
    """Of each place the NAMEs, rising, that may be gone from it, each with the greatest place it leads to.

    Behind a row one may be at one greatest place and at all of its backs, at no others:
    so the greatest place alone tells which rows go on from there, and each row leads to just one.
    """
    steps = []
    for place in range(len(word) + 1):
        leads = {word[at]: at + 1 for at in going_places(word, place)}
        steps.append({name: leads[name] for name in sorted(leads)})
    return steps


def is_wound(word, row, *, place=0):
    """Whether there is a course of the word by the row from the place."""
    check_place(word, place)
    steps = greatest_steps(word)
    greatest = place
    for name in row:
        if name not in steps[greatest]:
            return False
        greatest = steps[greatest][name]
    return greatest == len(word)


def count_ends(steps, size):
    """Of each number of names from 0 to size, and each place: how many rows lead from there to len."""
    # Of a size below 0 there are no rows at all, not those of no names.
    counts = [[int(size >= 0 and place == len(steps) - 1) for place in range(len(steps))]]
    for more in range(size):
        ahead = counts[more]
        counts.append([sum([ahead[to] for to in leads.values()]) for leads in steps])
    return counts


def count_wound(word, size):
    """How many wound rows have just so many names."""
    return count_ends(greatest_steps(word), size)[-1][0]


def first_step(leads, ends, number):
    """Of the so-manieth row that goes on by these names its first name, where that leads, and which one it is there."""
    ahead = number
    for name, to in leads.items():
        if ahead < ends[to]:
            return (name, to, ahead)
        ahead -= ends[to]
    return None


def wound_at(word, size, number):
    """The so-manieth wound row of so many names, as they rise."""
    steps = greatest_steps(word)
    counts = count_ends(steps, size)
    if not is_whole(number) or not 0 <= number < counts[-1][0]:
        raise NoNumber(number)
    row = []
    place = 0
    left = number
    for ends in reversed(counts[:-1]):
        name, place, left = first_step(steps[place], ends, left)
        row.append(name)
    return tuple(row)


def wound_rows(word, size):
    """All wound rows of so many names, rising."""
    steps = greatest_steps(word)
    counts = count_ends(steps, size)
    many = counts[-1][0]
    if many > MOST_ROWS:
        raise TooMany(many)
    if many == 0:
        return ()
    begun = [((), 0)]
    for ends in reversed(counts[:-1]):
        # What can't be ended is left out, so there are never more rows begun than told in the end.
        begun = [((*row, name), to) for row, at in begun for name, to in steps[at].items() if ends[to]]
    return tuple([row for row, at in begun])
