"""Strands of ways, and walks from them on, round their way."""

from ringwords.letters import back
from ringwords.whole import is_whole


def strands_of(ways):
    """All strands of the ways, rising."""
    found = []
    for number, way in enumerate(ways):
        found.extend([(number, place) for place in range(len(way))])
    return found


def is_strand(ways, thing):
    """Whether any plain thing is a strand of the ways."""
    if not isinstance(thing, tuple) or len(thing) != 2 or not all([is_whole(part) for part in thing]):
        return False
    return 0 <= thing[0] < len(ways) and 0 <= thing[1] < len(ways[thing[0]])


def letter_of(ways, strand):
    """The letter at a strand's place."""
    return ways[strand[0]][strand[1]]


def strands_through(ways, letter):
    """The strands that go through the band of a small letter, rising."""
    return [strand for strand in strands_of(ways) if letter_of(ways, strand).lower() == letter]


def strand_behind(ways, strand):
    """The next strand of the same way."""
    return strand_on(ways, strand, 1)


def strand_on(ways, strand, step):
    """The strand of the same way so many places further on, round its way."""
    return (strand[0], (strand[1] + step) % len(ways[strand[0]]))


def met(ways, walk, step):
    """The letter that a walk (way, place, side) meets at a step from its place, ahead of it where step is below 0.

    By side 1 it goes along its way, by side -1 against it, and there it meets the letters' backs.
    """
    way = ways[walk[0]]
    letter = way[(walk[1] + walk[2] * step) % len(way)]
    return letter if walk[2] == 1 else back(letter)
