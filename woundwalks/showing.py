"""Words, rows, webs, worlds and papers of marks as texts."""

from woundwalks.forms import NOTHING, by_blanks


def show_row(row):
    """The text of a row or a word."""
    return by_blanks(row)


def show_web(web):
    """The text of a web."""
    n, posts = web
    return "\n".join([str(n)] + [by_blanks((crossing, name, *arms)) for crossing, name, arms in posts])


def show_world(world):
    """The text of a world."""
    return by_blanks(world)


def show_paper(paper):
    """The text of a paper of marks."""
    if not paper:
        return NOTHING
    return "\n".join([by_blanks((crossing, place, *ground)) for crossing, place, ground in paper])
