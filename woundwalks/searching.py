"""The shortest, least row that leads to what is sought."""


def first_row(begin, steps_from, is_sought):
    """The row of the fewest names, of these the least, that leads from begin to what is sought, None.

    Told by steps_from are the (NAME, where it leads) from where one is, one for each NAME, rising.
    """
    rows = {begin: ()}
    line = [begin]
    at = 0
    # The line holds what is come to by the fewest names first, by the least rows first:
    # so the first in it that is sought was come to by the row that is sought.
    while at < len(line):
        here = line[at]
        if is_sought(here):
            return rows[here]
        for name, to in steps_from(here):
            if to not in rows:
                rows[to] = (*rows[here], name)
                line.append(to)
        at += 1
    return None
