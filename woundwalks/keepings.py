"""Keepings of a table: of the rows that claim the same just one is kept."""

from woundwalks.tables import is_table_row, keys_of, last_keys, web_of
from woundwalks.worlds import count_worlds, gone_by, world_at


def is_keeping(table, thing):
    """Whether it is a keeping of the table; of anything as thing."""
    claimed = last_keys(table)
    if not isinstance(thing, tuple) or len(thing) != len(claimed):
        return False
    if not all([is_table_row(part) for part in thing]):
        return False
    # The (KEY, NAME) rise, and so do the rows of a keeping.
    return all([part[:2] == spot and part[2] in claimed[spot] for part, spot in zip(thing, list(claimed))])


def keeping_of(table, world):
    """The keeping of the rows that are right in this world of the table's web."""
    known = keys_of(table)
    return tuple([(*spot, known[arm]) for spot, arm in zip(list(last_keys(table)), world)])


def count_keepings(table):
    """How many keepings the table has."""
    return count_worlds(web_of(table))


def keeping_at(table, number):
    """The so-manieth keeping of the table, as they rise."""
    # KEYs and crossings have the same order: so keepings rise as the worlds of the web do.
    return keeping_of(table, world_at(web_of(table), number))


def chain(table, keeping, key, row):
    """The KEYs from this one on that are come to by the keeping, name by name, as far as rows stand."""
    return gone_by({kept[:2]: kept[2] for kept in keeping}, key, row)
