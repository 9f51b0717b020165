"""Slacks of drawings: two crossings along one stretch, of which no tight drawing has any."""

from ringwords.drawings import crossings
from ringwords.links import all_links
from ringwords.strands import is_strand, met, strand_on


def is_slack(surface, ways, drawing, thing):
    """Whether any plain thing is a pair of two crossings that are a slack of the drawing."""
    if not isinstance(thing, tuple) or len(thing) != 2 or not all([are_strands(ways, part) for part in thing]):
        return False
    told = crossings(surface, ways, drawing)
    if thing[0] == thing[1] or not all([crossing in told for crossing in thing]):
        return False
    return thing[1] in ends_from(ways, thing[0]) or thing[0] in ends_from(ways, thing[1])


def are_strands(ways, thing):
    """Whether any plain thing is a pair of strands of the ways."""
    return isinstance(thing, tuple) and len(thing) == 2 and all([is_strand(ways, part) for part in thing])


def looked(surface, ways, drawing):
    """("tight", links) where the drawing has as many crossings as there are links; else ("slack", crossing, other)."""
    told = all_links(surface, ways)
    found = crossings(surface, ways, drawing)
    if len(found) == len(told):
        return ("tight", tuple(told))
    pair = first_slack(ways, found)
    return ("slack", pair[0], pair[1])


def first_slack(ways, found):
    """The first of the crossings with one that makes a slack with it; there is one where they are more than the links.

    Two ways, unrolled, that cross more than once, or that never part and cross, do so twice along one stretch.
    """
    known = dict([(crossing, True) for crossing in found])
    for crossing in found:
        for other in ends_from(ways, crossing):
            if other != crossing and other in known:
                return (crossing, other)
    return None


def ends_from(ways, crossing):
    """The pairs of strands, the lesser first, that have a stretch with the crossing, as the first of both."""
    one = crossing[0]
    other = crossing[1]
    return stretched(ways, one, other, 1) + stretched(ways, one, other, -1) + stretched(ways, other, one, -1)


def stretched(ways, one, other, side):
    """The pairs that one comes to, the lesser first: along the one's way, and along (side 1) or against the other's.

    They end the stretches of letters met alike from both chords on, up to the letters of both ways together.
    """
    mine = (one[0], one[1], 1)
    # Against its way a walk leaves a chord by the strand's own band, along it by the next one's.
    theirs = (other[0], other[1] if side == 1 else other[1] + 1, side)
    found = []
    for m in range(1, len(ways[one[0]]) + len(ways[other[0]]) + 1):
        if met(ways, mine, m) != met(ways, theirs, m):
            break
        found.append(tuple(sorted([strand_on(ways, one, m), strand_on(ways, other, side * m)])))
    return found
