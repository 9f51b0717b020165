"""Words closed to rings: cores, turns, roots and sums."""

from ringwords.letters import SMALL, back, reduced


def core(word):
    """The pair (front, middle): the word is reduced to front, middle, front's back."""
    front = ""
    middle = reduced(word)
    # A reduced word can't lose all its letters here: the last two would be a letter and its back.
    while middle != "" and middle[-1] == back(middle[0]):
        front = front + middle[0]
        middle = middle[1:-1]
    return (front, middle)


def turns(word):
    """The turns of a word from each place on; "" has one, from place 0."""
    if word == "":
        return [""]
    return [word[place:] + word[:place] for place in range(len(word))]


def least_turn(word):
    """The first of the turns, as texts rise."""
    return min(turns(word))


def rooted(word):
    """The pair (root, times) of a round word that is not ""."""
    # A word comes back to itself, turned, first behind one root.
    length = (word + word).find(word, 1)
    return (word[:length], len(word) // length)


def sums(many, word):
    """For each letter how often it stands small in the word, less how often big."""
    return tuple([word.count(letter) - word.count(back(letter)) for letter in SMALL[:many]])
