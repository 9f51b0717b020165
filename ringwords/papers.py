"""What the checkers of nothing papers and of none papers share: rows of steps, and where they lead."""

from ringwords.errors import NoPaper, NoStep
from ringwords.steps import is_step, walked

MOST_STEPS = 2000


def are_steps(thing):
    """Whether any plain thing is a tuple of steps, not too many."""
    return isinstance(thing, tuple) and len(thing) <= MOST_STEPS and all([is_step(part) for part in thing])


def end_of(rings, word, steps):
    """The word to which a paper's steps lead; refused with NoPaper("step", k)."""
    try:
        return walked(rings, word, steps)
    except NoStep as refusal:
        raise NoPaper("step", refusal.place) from None
