"""Surfaces and ways on them, and how their ends follow one another going round."""

from ringwords.letters import SMALL, back, is_round, is_word
from ringwords.rounds import rooted

MOST_ENDS = 12
MOST_WAY_LETTERS = 30
MOST_WAYS = 4
MOST_LETTERS_IN_ALL = 60


def is_surface(thing):
    """Whether any plain thing is a surface."""
    if not isinstance(thing, str) or not 2 <= len(thing) <= MOST_ENDS:
        return False
    letters = letters_of(thing)
    return sorted(thing) == sorted(letters + back(letters))


def letters_of(surface):
    """The small letters of a surface, in order."""
    return SMALL[:len(surface) // 2]


def is_way(surface, thing):
    """Whether any plain thing is a way of the surface."""
    if not is_word(len(surface) // 2, thing) or not 1 <= len(thing) <= MOST_WAY_LETTERS:
        return False
    return is_round(thing) and rooted(thing)[1] == 1


def are_ways(surface, thing):
    """Whether any plain thing is ways of the surface."""
    if not isinstance(thing, tuple) or not 1 <= len(thing) <= MOST_WAYS:
        return False
    return all([is_way(surface, part) for part in thing]) and len("".join(thing)) <= MOST_LETTERS_IN_ALL


def round_from(surface, start, end):
    """How many places one goes round from the one end to the other."""
    return (surface.index(end) - surface.index(start)) % len(surface)


def are_met_by_turns(one, other):
    """Whether going round one meets a place of the one pair, of the other, of the one, of the other; all unlike."""
    low = min(one)
    high = max(one)
    return (low < other[0] < high) != (low < other[1] < high)
