"""Rings: their turns, and whether they are thin."""

from ringwords.letters import MOST_MANY, back, is_round, is_word
from ringwords.rounds import turns

MOST_RINGS = 6
MOST_RING_LETTERS = 120


def is_rings(thing):
    """Whether any plain thing is rings."""
    return isinstance(thing, tuple) and len(thing) <= MOST_RINGS and all([is_ring(part) for part in thing])


def is_ring(thing):
    """Whether any plain thing is one ring: a round word, not "", not too long."""
    return is_word(MOST_MANY, thing) and 1 <= len(thing) <= MOST_RING_LETTERS and is_round(thing)


def turns_of(rings):
    """All turns of the rings and of their backs, rising, each once."""
    found = []
    for ring in rings:
        found.extend(turns(ring))
        found.extend(turns(back(ring)))
    return sorted(set(found))


def is_turn_of(rings, word):
    """Whether the word is one of the rings' turns; quicker than to list them all."""
    for ring in rings:
        if len(ring) == len(word) and (word in ring + ring or back(word) in ring + ring):
            return True
    return False


def beginning(one, other):
    """The longest beginning that both words have."""
    for place, pair in enumerate(zip(one, other)):
        if pair[0] != pair[1]:
            return one[:place]
    return one[:len(other)]


def thick(rings):
    """The first (turn, other, piece) that shows the rings are not thin, or None."""
    told = turns_of(rings)
    for place, turn in enumerate(told):
        other = first_alike(told, place)
        if other is not None:
            return (turn, other, beginning(turn, other))
    return None


def first_alike(told, place):
    """The first other turn whose piece with the one at place is too long for that one, or None."""
    start = told[place][:(len(told[place]) + 5) // 6]
    # Turns rise, so those with one beginning stand beside one another.
    first = place
    while first > 0 and told[first - 1].startswith(start):
        first -= 1
    if first < place:
        return told[first]
    if place + 1 < len(told) and told[place + 1].startswith(start):
        return told[place + 1]
    return None
