"""Looks at crossing papers: a drawing, and as many links as it has crossings."""

from ringwords.drawings import crossings, is_drawing
from ringwords.errors import NoPaper
from ringwords.links import links_at
from ringwords.strands import is_strand
from ringwords.whole import is_whole


def lets_crossing(surface, ways, thing):
    """True where the thing is a crossing paper of the ways; else refused with NoPaper."""
    if not is_crossing_paper(surface, ways, thing):
        raise NoPaper("shape", 0)
    look_at_links(surface, ways, thing[1])
    if len(thing[1]) != len(crossings(surface, ways, thing[0])):
        raise NoPaper("many", 0)
    return True


def is_crossing_paper(surface, ways, thing):
    """Whether any plain thing is a pair of a drawing and a tuple."""
    if not isinstance(thing, tuple) or len(thing) != 2:
        return False
    return is_drawing(surface, ways, thing[0]) and isinstance(thing[1], tuple)


def look_at_links(surface, ways, things):
    """Refuses unless all are links of the ways, rising."""
    for k, thing in enumerate(things):
        if not is_link(surface, ways, thing):
            raise NoPaper("link", k)
        if k > 0 and thing <= things[k - 1]:
            raise NoPaper("link", k)


def is_link(surface, ways, thing):
    """Whether any plain thing is a link of the ways, told as links tells it."""
    if not isinstance(thing, tuple) or len(thing) not in (3, 4):
        return False
    # Compared alone, truths would pass for numbers.
    if not all([is_strand(ways, part) for part in thing[1:3]]) or not all([is_whole(part) for part in thing[3:]]):
        return False
    return thing in links_at(surface, ways, thing[1], thing[2])
