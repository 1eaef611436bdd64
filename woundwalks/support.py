"""The posts that a paper of marks uses, and webs held to some posts."""

from woundwalks.errors import NoPaper
from woundwalks.marklooks import shows_marks


def support(web, word, paper, *, goals=None):
    """The rising tuple of the (crossing, NAME) of the posts by which the paper's rows stand."""
    if not shows_marks(web, word, paper, goals=goals):
        raise NoPaper()
    used = [(crossing, word[place]) for crossing, place, ground in paper if ground[0] == "post"]
    return tuple(sorted(set(used)))


def held_to(web, pairs):
    """The web of those posts alone whose (crossing, NAME) is one of these pairs."""
    return (web[0], tuple([post for post in web[1] if post[:2] in pairs]))
