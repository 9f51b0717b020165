"""Links of ways: where they part to unlike sides, so that they have to cross."""

from ringwords.letters import back
from ringwords.strands import met
from ringwords.surfaces import are_met_by_turns, round_from


def links(surface, ways, i, j):
    """All links of the ways i and j, i not above j, rising."""
    told = []
    for p in range(len(ways[i])):
        for q in range(len(ways[j])):
            told.extend(links_at(surface, ways, (i, p), (j, q)))
    return sorted(told)


def all_links(surface, ways):
    """All links of the ways, of whichever two or one, rising."""
    told = []
    for i in range(len(ways)):
        for j in range(i, len(ways)):
            told.extend(links(surface, ways, i, j))
    return sorted(told)


def links_at(surface, ways, one, other):
    """The links that are told by these two strands, in this order, in a list."""
    told = against_at(surface, ways, one, other)
    if one < other:
        told.extend(along_at(surface, ways, one, other))
        told.extend(beside_at(surface, ways, one, other))
    return told


def beside_at(surface, ways, one, other):
    """The link beside of two strands, if there is one, in a list."""
    mine = chord_ends(ways, one)
    theirs = chord_ends(ways, other)
    if len(set(mine + theirs)) < 4:
        return []
    places = [surface.index(end) for end in mine + theirs]
    return [("beside", one, other)] if are_met_by_turns(places[:2], places[2:]) else []


def chord_ends(ways, strand):
    """The ends at which a strand's chord begins and ends."""
    walk = (strand[0], strand[1], 1)
    return back(met(ways, walk, 0)) + met(ways, walk, 1)


def along_at(surface, ways, one, other):
    """The link along that begins at two strands, if there is one, in a list."""
    mine = (one[0], one[1], 1)
    theirs = (other[0], other[1], 1)
    many = stretch(ways, mine, theirs)
    return [("along", one, other, many)] if is_parted(surface, ways, mine, theirs, many) else []


def against_at(surface, ways, one, other):
    """The link against that begins at the one strand and ends at the other, if it is told so, in a list."""
    mine = (one[0], one[1], 1)
    theirs = (other[0], other[1], -1)
    many = stretch(ways, mine, theirs)
    # The same link could be told from its other end; then the other way's first strand would be the one.
    if one > (other[0], (other[1] - many + 1) % len(ways[other[0]])):
        return []
    return [("against", one, other, many)] if is_parted(surface, ways, mine, theirs, many) else []


def stretch(ways, one, other):
    """How many letters two walks that come together here meet alike till they part; 0 where they don't come together.

    Walks that were apart just ahead of here part again: each comes round, so what they met alike for ever they met
    alike there too.
    """
    if met(ways, one, -1) == met(ways, other, -1):
        return 0
    many = 0
    while met(ways, one, many) == met(ways, other, many):
        many += 1
    return many


def is_parted(surface, ways, one, other, many):
    """Whether two walks that meet so many letters alike part to unlike sides at both ends of the stretch."""
    if many == 0:
        return False
    end = back(met(ways, one, many - 1))
    ahead = is_first(surface, end, met(ways, one, many), met(ways, other, many))
    begin = met(ways, one, 0)
    return ahead == is_first(surface, begin, back(met(ways, one, -1)), back(met(ways, other, -1)))


def is_first(surface, start, end, other):
    """Whether going round from the start one meets the one end ahead of the other."""
    return round_from(surface, start, end) < round_from(surface, start, other)
