"""Pictures of a surface: points that are joined in the disc, and the words they make."""

from ringwords.drawings import chords
from ringwords.letters import back, number_of
from ringwords.surfaces import letters_of
from ringwords.whole import is_whole

MOST_STRANDS = 60


def is_picture(surface, thing):
    """Whether any plain thing is a picture of the surface."""
    if not isinstance(thing, tuple) or len(thing) != 2 or not are_counts(surface, thing[0]):
        return False
    return are_joins(2 * sum(thing[0]), thing[1])


def are_counts(surface, thing):
    """Whether any plain thing tells for each letter how many points are at its small end, not too many."""
    if not isinstance(thing, tuple) or len(thing) != len(surface) // 2:
        return False
    return all([is_whole(part) and part >= 0 for part in thing]) and sum(thing) <= MOST_STRANDS


def are_joins(size, thing):
    """Whether any plain thing joins each of so many points with another one, and that one with it."""
    if not isinstance(thing, tuple) or len(thing) != size:
        return False
    if not all([is_whole(part) and 0 <= part < size for part in thing]):
        return False
    return all([part != point and thing[part] == point for point, part in enumerate(thing)])


def picture_of(surface, ways, drawing):
    """The picture that has a drawing's points, joined by its chords."""
    found = chords(surface, ways, drawing)
    joins = [0] * (2 * len(found))
    for chord in found.values():
        joins[chord[0]] = chord[1]
        joins[chord[1]] = chord[0]
    return (tuple([len(order) for order in drawing]), tuple(joins))


def words_of(surface, picture):
    """The words of a picture, each from the least point that was not come by yet."""
    ends = ends_of(surface, picture[0])
    sides = other_sides(surface, picture[0])
    seen = {}
    told = []
    for first in range(len(ends)):
        if first in seen:
            continue
        word = ""
        point = first
        while point not in seen:
            word = word + ends[point]
            seen[point] = True
            seen[sides[point]] = True
            point = picture[1][sides[point]]
        told.append(word)
    return told


def ends_of(surface, many):
    """For each point the end at which it is."""
    return "".join([end * many[number_of(end)] for end in surface])


def other_sides(surface, many):
    """For each point the other point of its strand."""
    ends = ends_of(surface, many)
    sides = {}
    for letter in letters_of(surface):
        for place in range(many[number_of(letter)]):
            near = ends.find(letter) + place
            far = ends.rfind(back(letter)) - place
            sides[near] = far
            sides[far] = near
    return sides
