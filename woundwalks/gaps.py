"""Gaps: webs in which marks mislead, for words that aren't of a kind."""

from woundwalks.kinds import lacking


def gap_ask(kind, many):
    """The ask that wants this kind, in the web of a row of so many names."""
    if kind == "steady":
        return ("somewhere",)
    return ("from", 0) if kind == "firm" else ("into", (many,))


def gap(word, kind):
    """A web of the lacking row's names one behind another, and the ask that it fails; None where none is lacking."""
    row = lacking(word, kind)
    if row is None:
        return None
    posts = tuple([(at, name, (at + 1,)) for at, name in enumerate(row)])
    return ((len(row) + 1, posts), gap_ask(kind, len(row)))
