"""Asks of tables, and the clashes that make no difference."""

from woundwalks.answers import answer
from woundwalks.building import with_arms
from woundwalks.keepings import keeping_of
from woundwalks.marks import marks
from woundwalks.tables import clashes, key_numbers, keys_of, web_of
from woundwalks.webs import arms_of


def ask_of_web(table, ask):
    """The ask with crossings of the table's web in the place of its KEYs."""
    numbers = key_numbers(table)
    if ask[0] == "somewhere":
        return ask
    if ask[0] == "from":
        return ("from", numbers[ask[1]])
    return (ask[0], tuple([numbers[key] for key in ask[1]]))


def asked(table, word, ask):
    """("sure", KEY) where the word is walked so in each keeping, else ("not", keeping), one in which it isn't."""
    told = answer(web_of(table), word, ask_of_web(table, ask))
    if told[0] == "sure":
        return ("sure", keys_of(table)[told[1]])
    return ("not", keeping_of(table, told[1]))


def is_freed(web, word, known, crossing, name):
    """Whether these marks stay the same ones whichever arm of the post alone is left."""
    arms = arms_of(web, crossing, name)
    return all([marks(with_arms(web, crossing, name, (arm,)), word) == known for arm in arms])


def freed(table, word):
    """The rising tuple of the clashes of which it makes no difference to the marks how they are settled."""
    web = web_of(table)
    numbers = key_numbers(table)
    known = marks(web, word)
    return tuple([(key, name) for key, name in clashes(table) if is_freed(web, word, known, numbers[key], name)])
