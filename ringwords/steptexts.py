"""Steps written as texts, and read again."""

from ringwords.errors import NoText
from ringwords.letters import MOST_MANY, is_letter, is_word

FORMS = {"out": ("number",), "in": ("number", "letter"), "ring": ("number", "turn", "number")}
FIGURES = "0123456789"
MOST_FIGURES = 4


def shown_steps(steps):
    """The text of the steps, "-" of none."""
    if len(steps) == 0:
        return "-"
    return "; ".join([shown_step(step) for step in steps])


def shown_step(step):
    """The text of one step."""
    return " ".join([str(part) for part in step])


def read_steps(text):
    """The steps that the text writes; refused with NoText."""
    if text == "-":
        return ()
    steps = []
    for number, part in enumerate(text.split("; ")):
        words = part.split(" ")
        wrong = first_wrong(words)
        if wrong is not None:
            raise NoText(number, wrong)
        steps.append(step_of(words))
    return tuple(steps)


def first_wrong(words):
    """The number of the first word that can't stand there, or lacks; None where all is well."""
    if words[0] not in FORMS:
        return 0
    form = FORMS[words[0]]
    for place, word in enumerate(words[1:]):
        if place == len(form) or not can_stand(form[place], word):
            return place + 1
    if len(words) <= len(form):
        return len(words)
    return None


def can_stand(kind, word):
    """Whether the word can stand where one of this kind is asked."""
    if kind == "number":
        return is_figures(word)
    if kind == "letter":
        return is_letter(word)
    return word != "" and is_word(MOST_MANY, word)


def is_figures(word):
    """Whether the word is a number of few figures, no 0 ahead but in 0 itself."""
    if not 1 <= len(word) <= MOST_FIGURES or not all([sign in FIGURES for sign in word]):
        return False
    return word == "0" or word[0] != "0"


def step_of(words):
    """The step that well-formed words write."""
    parts = [words[0]]
    for kind, word in zip(FORMS[words[0]], words[1:]):
        parts.append(int(word) if kind == "number" else word)
    return tuple(parts)
