"""Askers: stands with ways between them, of any that come round; and the rows that they read."""

from woundwalks.words import is_below, is_name, is_rising, is_rising_below, is_whole

MOST_STANDS = 16
MOST_WAYS = 60


def is_way(many, thing):
    """Whether it is a (stand, NAME, to) of many stands; of anything as thing."""
    if not isinstance(thing, tuple) or len(thing) != 3:
        return False
    stand, name, to = thing
    return is_below(many, stand) and is_name(name) and is_below(many, to)


def is_ways(many, thing):
    """Whether it is a rising tuple of unlike ways of many stands, of no more than may be; of anything as thing."""
    if not isinstance(thing, tuple) or len(thing) > MOST_WAYS:
        return False
    return all([is_way(many, part) for part in thing]) and is_rising(thing)


def rising_rows(ways):
    """The rising tuple of (NAME, stands): of each NAME of the ways the rising tuple of those that are come to by it."""
    come_to = {}
    for stand, name, to in ways:
        come_to.setdefault(name, {})[to] = True
    return tuple([(name, tuple(sorted(come_to[name]))) for name in sorted(come_to)])


def is_reordered(row, thing):
    """Whether it is this (NAME, stands), the stands in whichever order; of anything as thing."""
    if not isinstance(thing, tuple) or len(thing) != 2:
        return False
    name, stands = thing
    if not isinstance(name, str) or not isinstance(stands, tuple) or not all([is_whole(part) for part in stands]):
        return False
    return (name, tuple(sorted(stands))) == row


def is_asker(thing):
    """Whether it is an asker; of anything."""
    if not isinstance(thing, tuple) or len(thing) != 4:
        return False
    many, ways, goods, rows = thing
    if not is_whole(many) or not 1 <= many <= MOST_STANDS:
        return False
    if not is_ways(many, ways) or not is_rising_below(many, goods):
        return False
    plain = rising_rows(ways)
    # A stand that ways of two NAMEs come to would be in two of the rows, and 0, to which none may come, in one.
    if sorted([stand for name, stands in plain for stand in stands]) != list(range(1, many)):
        return False
    if not isinstance(rows, tuple) or len(rows) != len(plain):
        return False
    return all([is_reordered(row, part) for row, part in zip(plain, rows)])


def asker_of(word):
    """The word as an asker: its places as stands, len alone good, the rows rising."""
    ways = tuple([(place, word[place], place + 1) for place in range(len(word))])
    return (len(word) + 1, ways, (len(word),), rising_rows(ways))


def lower_stands(asker):
    """Of each stand of a row those to which one may step back from it."""
    return {stand: stands[:at] for name, stands in asker[3] for at, stand in enumerate(stands)}


def with_lower(lower, stands):
    """The rising tuple of these stands and of those to which one may step back from them."""
    found = {stand: True for stand in stands}
    for stand in stands:
        for back in lower.get(stand, ()):
            found[back] = True
    return tuple(sorted(found))


def led_to(asker, stands, name):
    """The rising tuple of the stands to which ways of this NAME lead from these."""
    found = {to: True for stand, called, to in asker[1] if called == name and stand in stands}
    return tuple(sorted(found))


def is_good(asker, stands):
    """Whether one of these stands is good."""
    return any([stand in asker[2] for stand in stands])


def reads_by(asker, lower, row, stand):
    """Whether the asker reads the row from the stand, stepping back to these lower stands alone."""
    stands = with_lower(lower, (stand,))
    for name in row:
        stands = with_lower(lower, led_to(asker, stands, name))
    return is_good(asker, stands)


def reads(asker, row, *, stand=0):
    """Whether the asker reads the row from the stand."""
    return reads_by(asker, lower_stands(asker), row, stand)


def reads_plainly(asker, row, *, stand=0):
    """Whether the asker reads the row from the stand without any stepping back."""
    return reads_by(asker, {}, row, stand)
