"""What is seen of a word behind a row, name by name."""

NOTHING_SEEN = 0
LEFT = -1


def seen_from_first(word, seen, name):
    """For "firm": how many of the word's first names the row has, LEFT where it has left them."""
    if seen == LEFT or seen == len(word):
        return seen
    return seen + 1 if word[seen] == name else LEFT


def seen_at_last(word, seen, name):
    """For "late": the greatest k so that the row's last k names are the word's first k."""
    # Further back than the names seen nothing can fit: what fits now has fitted, but for one name, ahead of it.
    known = (*word[:seen], name)
    fits = [many for many in range(min(len(word), len(known)) + 1) if known[len(known) - many:] == word[:many]]
    return fits[-1]


def seen_next(word, kind, seen, name):
    """What is seen behind a row of which this was seen, and one name more."""
    if kind == "firm":
        return seen_from_first(word, seen, name)
    if kind == "steady" and seen == len(word):
        return seen
    return seen_at_last(word, seen, name)


def seen_behind(word, kind, row):
    """What is seen behind a whole row."""
    seen = NOTHING_SEEN
    for name in row:
        seen = seen_next(word, kind, seen, name)
    return seen
