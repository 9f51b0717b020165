"""Surfaces cut along a band, and glued with a new one."""

from ringwords.errors import NoBand, NoSlide
from ringwords.letters import SMALL, back, number_of
from ringwords.surfaces import MOST_ENDS, letters_of


def cut(surface, letter):
    """The surface without the band of a small letter; refused with NoBand."""
    # Within a text "" would be found too, and letters beside one another.
    if len(surface) == 2 or letter not in list(letters_of(surface)):
        raise NoBand(letter)
    return lowered(letter, surface.replace(letter, "").replace(back(letter), ""))


def cut_word(letter, word):
    """The word on the cut surface; None where it goes through the band that is cut."""
    if letter in word or back(letter) in word:
        return None
    return lowered(letter, word)


def lowered(letter, word):
    """The word with the number one lesser for each letter of a greater number than the told one."""
    return "".join([lower_letter(letter, sign) for sign in word])


def lower_letter(letter, sign):
    """A letter of the number one lesser where it is greater than that of the told one."""
    if number_of(sign) < number_of(letter):
        return sign
    small = SMALL[number_of(sign) - 1]
    return small if sign.islower() else back(small)


def glued(surface, place, other):
    """The surface with a new band, its small end at the one place, then its big end at the other."""
    if len(surface) == MOST_ENDS:
        raise NoBand("")
    if not 0 <= place <= len(surface):
        raise NoSlide(0)
    if not 0 <= other <= len(surface) + 1:
        raise NoSlide(1)
    letter = SMALL[len(surface) // 2]
    return put_in(put_in(surface, place, letter), other, back(letter))


def put_in(row, place, sign):
    """The row with a sign just ahead of the one at the place."""
    return row[:place] + sign + row[place:]
