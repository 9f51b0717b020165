"""Looks at none papers: a short word by thin rings, or a seat that the word moves."""

from ringwords.errors import NoPaper
from ringwords.papers import are_steps, end_of
from ringwords.rings import thick
from ringwords.shortening import is_short
from ringwords.tables import is_table, led, unkept
from ringwords.whole import is_whole


def lets_none(many, rings, word, thing):
    """True where the thing is a none paper of the word; else refused with NoPaper."""
    if is_short_paper(thing):
        look_at_short(rings, word, thing[1])
    elif is_seats_paper(many, thing):
        look_at_seats(rings, word, thing[1], thing[2])
    else:
        raise NoPaper("shape", 0)
    return True


def is_short_paper(thing):
    """Whether any plain thing has the shape ("short", steps)."""
    return isinstance(thing, tuple) and len(thing) == 2 and thing[0] == "short" and are_steps(thing[1])


def is_seats_paper(many, thing):
    """Whether any plain thing has the shape ("seats", table, seat)."""
    if not isinstance(thing, tuple) or len(thing) != 3 or thing[0] != "seats":
        return False
    return is_table(many, thing[1]) and is_whole(thing[2]) and 0 <= thing[2] < len(thing[1][0])


def look_at_short(rings, word, steps):
    """Refuses unless the rings are thin and the steps lead to a short word that is not ""."""
    if thick(rings) is not None:
        raise NoPaper("thick", 0)
    end = end_of(rings, word, steps)
    if end == "":
        raise NoPaper("end", 0)
    if not is_short(rings, end):
        raise NoPaper("long", 0)


def look_at_seats(rings, word, table, seat):
    """Refuses unless the rings fit the table and the word moves the seat."""
    moving = unkept(rings, table)
    if moving is not None:
        raise NoPaper("ring", moving)
    if led(table, seat, word) == seat:
        raise NoPaper("seat", 0)
