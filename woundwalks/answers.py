"""Answers to asks: by marks, and by going through all worlds."""

from woundwalks.asks import asked_crossings, asked_goals, fails, wanted
from woundwalks.errors import Loose, TooMany
from woundwalks.kinds import lacking
from woundwalks.marks import marks_paper
from woundwalks.worlds import count_worlds, world_at
from woundwalks.worst import worst

MOST_WORLDS = 4096


def answer(web, word, ask):
    """("sure", crossing, paper) where marks say that no world fails the ask, else ("not", world), one that does."""
    kind = wanted(ask)
    row = lacking(word, kind)
    if row is not None:
        raise Loose(kind, row)
    goals = asked_goals(ask)
    paper = marks_paper(web, word, goals=goals)
    marked = {mark[:2]: True for mark in paper}
    for crossing in asked_crossings(web, ask):
        if (crossing, 0) in marked:
            return ("sure", crossing, paper)
    return ("not", worst(web, word, goals=goals))


def count_few_worlds(web):
    """How many worlds the web has, where they are few enough to go through."""
    many = count_worlds(web)
    if many > MOST_WORLDS:
        raise TooMany(many)
    return many


def by_worlds(web, word, ask):
    """("sure",) where no world fails the ask, else ("not", number) of the least one that does."""
    for number in range(count_few_worlds(web)):
        if fails(web, world_at(web, number), word, ask):
            return ("not", number)
    return ("sure",)


def share(web, word, ask):
    """How many worlds don't fail the ask, and how many there are."""
    many = count_few_worlds(web)
    held = [number for number in range(many) if not fails(web, world_at(web, number), word, ask)]
    return (len(held), many)
