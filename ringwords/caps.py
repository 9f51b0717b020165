"""Caps: holes that go around as nothing, their rings, and how they go over by slides."""

from ringwords.errors import NoSlide
from ringwords.holes import holes
from ringwords.maps import way_by
from ringwords.rounds import least_turn
from ringwords.slides import can_slide, maps_of, moved
from ringwords.whole import is_whole

MOST_CAPS = 6
MOST_TIMES = 10


def is_caps(surface, thing):
    """Whether any plain thing is caps of the surface."""
    if not isinstance(thing, tuple) or len(thing) > MOST_CAPS:
        return False
    count = len(holes(surface))
    if not all([is_cap(count, part) for part in thing]):
        return False
    return all([one[0] < other[0] for one, other in zip(thing, thing[1:])])


def is_cap(count, thing):
    """Whether any plain thing is a pair of one of so many holes' numbers, and how many times."""
    if not isinstance(thing, tuple) or len(thing) != 2 or not all([is_whole(part) for part in thing]):
        return False
    return 0 <= thing[0] < count and 1 <= thing[1] <= MOST_TIMES


def capped(surface, caps):
    """The rings of the caps: the holes' words, each so many times."""
    told = holes(surface)
    return tuple([told[cap[0]] * cap[1] for cap in caps])


def carried(surface, caps, slides):
    """The caps to which they go over by a row of slides; refused with NoSlide."""
    for k, slide in enumerate(slides):
        if not can_slide(surface, slide):
            raise NoSlide(k)
        row = moved(surface, slide)
        caps = carried_by(maps_of(surface, slide)[0], surface, row, caps)
        surface = row
    return caps


def carried_by(change, surface, row, caps):
    """The caps of a row to which those of the surface go over by a map of words."""
    words = holes(surface)
    there = [least_turn(word) for word in holes(row)]
    return tuple(sorted([(there.index(way_by(change, words[cap[0]])), cap[1]) for cap in caps]))
