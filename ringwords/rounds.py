"""Words closed to rings: cores, turns, roots and sums."""

from ringwords.letters import SMALL, back, reduced


def core(word):
    """The pair (front, middle): the word is reduced to front, middle, front's back."""
    whole = reduced(word)
    size = 0
    # A reduced word can't lose all its letters here: the last two would be a letter and its back.
    while 2 * size < len(whole) and whole[size] == back(whole[-1 - size]):
        size += 1
    return (whole[:size], whole[size:len(whole) - size])


def turns(word):
    """The turns of a word from each place on; "" has one, from place 0."""
    if word == "":
        return [""]
    return [word[place:] + word[:place] for place in range(len(word))]


def least_turn(word):
    """The first of the turns, as texts rise."""
    place = least_place(word)
    return word[place:] + word[:place]


def least_place(word):
    """A place from which on the least turn begins.

    Told words may be too long to list all their turns. Of two turns that are alike for some letters and then part, none
    that begins within these letters of the greater one is the least: the same place within the lesser one beats it.
    """
    twice = word + word
    one = 0
    other = 1
    size = 0
    while max(one, other) < len(word) and size < len(word):
        if twice[one + size] == twice[other + size]:
            size += 1
        else:
            if twice[one + size] > twice[other + size]:
                one += size + 1
            else:
                other += size + 1
            if one == other:
                other += 1
            size = 0
    return min(one, other)


def rooted(word):
    """The pair (root, times) of a round word that is not ""."""
    # A word comes back to itself, turned, first behind one root.
    length = (word + word).find(word, 1)
    return (word[:length], len(word) // length)


def sums(many, word):
    """For each letter how often it stands small in the word, less how often big."""
    return tuple([word.count(letter) - word.count(back(letter)) for letter in SMALL[:many]])
