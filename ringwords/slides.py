"""Slides: a band's end slid along its neighbour, and how words go over and home again."""

from ringwords.errors import NoSlide
from ringwords.letters import SMALL, back, number_of
from ringwords.maps import plain, then


def slid(surface, slide):
    """The surface to which a slide leads; refused with NoSlide(0)."""
    if not can_slide(surface, slide):
        raise NoSlide(0)
    return moved(surface, slide)


def maps_of(surface, slide):
    """The pair of maps (over, home) of a slide; refused with NoSlide(0)."""
    if not can_slide(surface, slide):
        raise NoSlide(0)
    end = surface[slide[0]]
    many = len(surface) // 2
    beside = neighbour(surface, slide)
    return (putting_ahead(many, end, beside), putting_ahead(many, end, back(beside)))


def told_by(surface, slides):
    """The tuple (surface, over, home) of a row of slides, all together; refused with NoSlide."""
    over = plain(len(surface) // 2)
    home = over
    for k, slide in enumerate(slides):
        if not can_slide(surface, slide):
            raise NoSlide(k)
        maps = maps_of(surface, slide)
        over = then(over, maps[0])
        home = then(maps[1], home)
        surface = moved(surface, slide)
    return (surface, over, home)


def can_slide(surface, slide):
    """Whether the slide's place is one of the surface's, and the end beside it is not its own back."""
    return 0 <= slide[0] < len(surface) and neighbour(surface, slide) != back(surface[slide[0]])


def neighbour(surface, slide):
    """The end just behind the one at the slide's place, or just ahead of it, by its side."""
    return surface[(slide[0] + slide[1]) % len(surface)]


def moved(surface, slide):
    """The text with the end at the slide's place put in again beside its neighbour's back."""
    end = surface[slide[0]]
    left = surface.replace(end, "")
    place = left.index(back(neighbour(surface, slide)))
    if slide[1] == 1:
        place += 1
    return left[:place] + end + left[place:]


def putting_ahead(many, end, other):
    """The map of so many letters that makes of the one end the other and then the one, and leaves the rest."""
    parts = list(SMALL[:many])
    word = other + end
    parts[number_of(end)] = word if end.islower() else back(word)
    return tuple(parts)
