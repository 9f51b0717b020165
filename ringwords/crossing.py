"""Crossing papers: ways drawn tight, with the links that show that no drawing does better."""

from ringwords.links import all_links
from ringwords.tight import tight


def crossing_paper(surface, ways):
    """A crossing paper of the ways: a drawing, and as many links as it has crossings."""
    return (tight(surface, ways), tuple(all_links(surface, ways)))
