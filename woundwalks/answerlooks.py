"""Looking at answers."""

from woundwalks.asks import asked_crossings, asked_goals, fails, wanted
from woundwalks.kinds import is_kind
from woundwalks.marklooks import shows_marks
from woundwalks.words import is_whole
from woundwalks.worlds import is_world


def shows_sure(web, word, ask, crossing, paper):
    """Whether the paper shows an asked crossing's mark, the word of the wanted kind; of anything as these two."""
    if not is_whole(crossing) or crossing not in asked_crossings(web, ask):
        return False
    if not is_kind(word, wanted(ask)) or not shows_marks(web, word, paper, goals=asked_goals(ask)):
        return False
    return (crossing, 0) in [row[:2] for row in paper]


def shows_answer(web, word, ask, thing):
    """Whether it is an answer to the ask that holds; of anything as thing."""
    if not isinstance(thing, tuple) or not thing or not isinstance(thing[0], str):
        return False
    if thing[0] == "sure":
        return len(thing) == 3 and shows_sure(web, word, ask, thing[1], thing[2])
    if thing[0] != "not" or len(thing) != 2:
        return False
    return is_world(web, thing[1]) and fails(web, thing[1], word, ask)
