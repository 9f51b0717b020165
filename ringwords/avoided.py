"""Reduced words that have none of some words within, read letter by letter: what counts and recurring share."""

from ringwords.letters import SMALL, back


def followed(many, words):
    """For each state the list of those to which one more letter leads, from "" on; empty where "" itself is barred.

    A state is the longest end of what was read that begins a barred word: no more has to be known to go on.
    """
    barred = list(words)
    for letter in SMALL[:many]:
        # Without these within, a word is reduced.
        barred.extend([letter + back(letter), back(letter) + letter])
    begins = beginnings(barred)
    found = {}
    waiting = [] if "" in barred else [""]
    while waiting:
        state = waiting.pop()
        if state not in found:
            found[state] = states_behind(many, barred, begins, state)
            waiting.extend(found[state])
    return found


def beginnings(barred):
    """All beginnings of the barred words, from "" on, as keys."""
    found = {}
    for word in barred:
        for size in range(len(word)):
            found[word[:size]] = True
    return found


def states_behind(many, barred, begins, state):
    """The states to which one more letter leads from this one, where no barred word ends with it."""
    read = [state + letter for letter in SMALL[:many] + back(SMALL[:many])]
    return [longest_end(begins, text) for text in read if not any([text.endswith(word) for word in barred])]


def longest_end(begins, text):
    """The longest end of the text that is one of the beginnings."""
    place = 0
    while text[place:] not in begins:
        place += 1
    return text[place:]
