"""Rows that a desk is told: their words, and whether these are of their kinds."""

from ringwords.errors import NoRow, NoText
from ringwords.letters import MOST_MANY, is_word
from ringwords.steptexts import is_figures, read_steps
from ringwords.surfaces import is_surface

# By first words, the kinds of the words behind; "surface" has two forms.
FORMS = {
    "surface": ((), ("row",)),
    "holes": ((),),
    "handles": ((),),
    "way": (("new", "word"),),
    "word": (("name",),),
    "drop": (("name",),),
    "ways": ((),),
    "cross": (("name", "name"),),
    "cap": (("number", "number"),),
    "rings": ((),),
    "judge": (("word",),),
    "show": (("word",),),
    "check": (("word", "colon", "steps"),),
    "slide": (("number", "side"),),
    "back": ((),),
    "same": (("row",),),
}

NAME_SIGNS = "abcdefghijklmnopqrstuvwxyz"
MOST_NAME_SIGNS = 8


def row_words(row):
    """The words of a row, each of its kind, steps as one word; refused with NoRow."""
    words = split_row(row)
    if form_of(words) is None:
        raise NoRow(row)
    return words


def split_row(row):
    """The words between single blanks; of check, what stands behind the colon is one."""
    words = row.split(" ")
    if words[0] == "check" and len(words) > 3:
        return words[:3] + [" ".join(words[3:])]
    return words


def form_of(words):
    """The kinds of the words behind the first one, where they are of such; else None."""
    for form in FORMS.get(words[0], ()):
        if len(words) == len(form) + 1 and all([is_kind(kind, word) for kind, word in zip(form, words[1:])]):
            return form
    return None


def is_kind(kind, word):
    """Whether a word of a row is one of its kind; none without signs is."""
    if kind == "row":
        return is_surface(word)
    if kind in ("new", "name"):
        return is_name(word)
    if kind == "word":
        return word == "-" or (word != "" and is_word(MOST_MANY, word))
    if kind == "number":
        return is_figures(word)
    if kind == "side":
        return word in ("1", "-1")
    if kind == "colon":
        return word == ":"
    return is_steps_text(word)


def is_name(word):
    """Whether the word is a name."""
    return 1 <= len(word) <= MOST_NAME_SIGNS and all([sign in NAME_SIGNS for sign in word])


def is_steps_text(text):
    """Whether the text writes steps."""
    try:
        read_steps(text)
    except NoText:
        return False
    return True


def names_asked(words):
    """The names in a row that a desk has to have."""
    return [word for kind, word in zip(form_of(words), words[1:]) if kind == "name"]


def read_word(word):
    """The word of letters that a row writes."""
    return "" if word == "-" else word
