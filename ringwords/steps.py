"""Steps on words by rings: which there are, and where they lead."""

from ringwords.errors import NoStep
from ringwords.letters import MOST_MANY, back, is_letter, is_word
from ringwords.rings import is_turn_of
from ringwords.whole import is_whole

MOST_LETTERS = 2000


def is_step(thing):
    """Whether any plain thing is a step."""
    if not isinstance(thing, tuple) or len(thing) < 2 or not is_count(thing[1]):
        return False
    if len(thing) == 2:
        return thing[0] == "out"
    if len(thing) == 3:
        return thing[0] == "in" and is_letter(thing[2])
    return len(thing) == 4 and thing[0] == "ring" and is_word(MOST_MANY, thing[2]) and is_count(thing[3])


def is_count(thing):
    """Whether any plain thing is a whole number from 0 on."""
    return is_whole(thing) and thing >= 0


def done(rings, word, step):
    """The word to which the step leads; refused with NoStep(0)."""
    return walked(rings, word, (step,))


def walked(rings, word, steps):
    """The word to which the steps lead, one behind the other."""
    for number, step in enumerate(steps):
        if not fits(rings, word, step):
            raise NoStep(number)
        word = changed(word, step)
        if len(word) > MOST_LETTERS:
            raise NoStep(number)
    return word


def fits(rings, word, step):
    """Whether what the step tells is there in the word."""
    if not is_step(step):
        return False
    if step[0] == "out":
        return is_out(word, step[1])
    if step[0] == "in":
        return step[1] <= len(word)
    return is_there(word, step[1], step[2], step[3]) and is_turn_of(rings, step[2])


def is_out(word, place):
    """Whether the letter at place has its back just behind it."""
    return place + 1 < len(word) and word[place + 1] == back(word[place])


def is_there(word, place, turn, many):
    """Whether the first many letters of the turn stand in the word from place on."""
    if many > len(turn) or place + many > len(word):
        return False
    return word[place:place + many] == turn[:many]


def changed(word, step):
    """The word after a step that fits."""
    place = step[1]
    if step[0] == "out":
        return word[:place] + word[place + 2:]
    if step[0] == "in":
        return word[:place] + step[2] + back(step[2]) + word[place:]
    return word[:place] + back(step[2][step[3]:]) + word[place + step[3]:]
