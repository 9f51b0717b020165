"""Ways drawn tight: they cross as often as they have links, and no more."""

from ringwords.letters import back
from ringwords.strands import letter_of, met, strands_through
from ringwords.surfaces import letters_of, round_from


def tight(surface, ways):
    """A drawing of the ways with just as many crossings as links."""
    return tuple([order_of(surface, ways, letter) for letter in letters_of(surface)])


def order_of(surface, ways, letter):
    """The strands through a small letter's band, as one meets them at the small end."""
    return tuple(sorted(strands_through(ways, letter), key=lambda strand: rank_of(surface, ways, strand)))


def rank_of(surface, ways, strand):
    """What the strands of one band are sorted by: of two, their nearer parting says which comes first.

    Of two partings as near, the one behind the big end does; so both cross once, midway, or never.
    """
    walk = from_small_end(ways, strand)
    rank = []
    # Walks that part at all do so within as many letters as both their ways have together.
    for step in range(len("".join(ways))):
        rank.append(round_from(surface, back(met(ways, walk, step)), met(ways, walk, step + 1)))
        rank.append(-round_from(surface, met(ways, walk, -step), back(met(ways, walk, -step - 1))))
    # Ways that never part lie side by side: met the other way round where all of them go through a band the other way.
    rank.append(strand[0] * walk[2])
    return rank


def from_small_end(ways, strand):
    """The walk from a strand on that goes through its band from the small end to the big one."""
    return (strand[0], strand[1], 1 if letter_of(ways, strand).islower() else -1)
