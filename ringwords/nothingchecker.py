"""Looks at nothing papers: steps that lead from a word to ""."""

from ringwords.errors import NoPaper
from ringwords.papers import are_steps, end_of


def lets_nothing(rings, word, thing):
    """True where the thing is a nothing paper of the word; else refused with NoPaper."""
    if not are_steps(thing):
        raise NoPaper("shape", 0)
    if end_of(rings, word, thing) != "":
        raise NoPaper("end", 0)
    return True
