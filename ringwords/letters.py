"""Letters and words: backs, what a word is reduced to, products and powers."""

SMALL = "abcdef"
MOST_MANY = 6

BACKS = {
    "a": "A", "b": "B", "c": "C", "d": "D", "e": "E", "f": "F",
    "A": "a", "B": "b", "C": "c", "D": "d", "E": "e", "F": "f",
}


def is_letter(thing):
    """Whether any plain thing is a letter."""
    return isinstance(thing, str) and thing in BACKS


def is_word(many, thing):
    """Whether any plain thing is a word of so many letters."""
    if not isinstance(thing, str):
        return False
    return all([is_letter(sign) and number_of(sign) < many for sign in thing])


def number_of(letter):
    """The number of a letter, small or big."""
    return SMALL.index(letter.lower())


def back(word):
    """The backs of the letters, from the last to the first."""
    return "".join([BACKS[letter] for letter in reversed(word)])


def is_reduced(word):
    """Whether no letter of the word stands just ahead of its back."""
    return all([BACKS[letter] != behind for letter, behind in zip(word, word[1:])])


def is_round(word):
    """Whether the word is reduced, and stays so when it is closed to a ring."""
    return is_reduced(word) and (word == "" or word[-1] != BACKS[word[0]])


def reduced(word):
    """What is left when letters with their backs just behind them are taken out."""
    left = []
    for letter in word:
        if left and left[-1] == BACKS[letter]:
            left.pop()
        else:
            left.append(letter)
    return "".join(left)


def times(one, other):
    """One word times another one, reduced."""
    return reduced(one + other)


def power(word, number):
    """The word so many times, reduced; its back where the number is below 0."""
    once = back(word) if number < 0 else word
    return reduced(once * abs(number))
