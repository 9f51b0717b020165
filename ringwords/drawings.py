"""Drawings of ways on a surface: their points, and where their chords cross."""

from ringwords.letters import back, number_of
from ringwords.strands import is_strand, letter_of, strand_behind, strands_of, strands_through
from ringwords.surfaces import are_met_by_turns, letters_of


def is_drawing(surface, ways, thing):
    """Whether any plain thing is a drawing of the ways."""
    letters = letters_of(surface)
    if not isinstance(thing, tuple) or len(thing) != len(letters):
        return False
    return all([is_order(ways, letter, part) for letter, part in zip(letters, thing)])


def is_order(ways, letter, thing):
    """Whether any plain thing is a tuple of the strands through a small letter's band, each once."""
    if not isinstance(thing, tuple) or not all([is_strand(ways, part) for part in thing]):
        return False
    return sorted(thing) == strands_through(ways, letter)


def points(surface, ways, drawing):
    """The pairs (end, strand) as one meets them going round."""
    told = []
    for end in surface:
        told.extend([(end, strand) for strand in met_at(drawing, end)])
    return told


def met_at(drawing, end):
    """The strands that one meets at an end."""
    order = drawing[number_of(end)]
    return order if end.islower() else order[::-1]


def chords(surface, ways, drawing):
    """For each strand, rising, its chord: the pair of the numbers of its points."""
    numbers = {}
    for number, point in enumerate(points(surface, ways, drawing)):
        numbers[point] = number
    found = {}
    for strand in strands_of(ways):
        onward = strand_behind(ways, strand)
        start = (back(letter_of(ways, strand)), strand)
        found[strand] = (numbers[start], numbers[(letter_of(ways, onward), onward)])
    return found


def crossings(surface, ways, drawing):
    """The pairs of strands whose chords cross, rising, the lesser strand first."""
    found = chords(surface, ways, drawing)
    told = []
    for one in strands_of(ways):
        told.extend([(one, other) for other in found if one < other and are_met_by_turns(found[one], found[other])])
    return told


def crossed(surface, ways, drawing, i, j):
    """How many crossings have a chord of the one way and a chord of the other."""
    wanted = (min(i, j), max(i, j))
    return len([pair for pair in crossings(surface, ways, drawing) if (pair[0][0], pair[1][0]) == wanted])
