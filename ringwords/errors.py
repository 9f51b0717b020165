"""The refusals: one base, and under it one class for each refusal."""


class RingError(ValueError):
    """Any refusal."""


class NoStep(RingError):
    """A step can't be done."""

    def __init__(self, place):
        RingError.__init__(self, "a step can't be done")
        self.place = place


class NoText(RingError):
    """A text writes no steps."""

    def __init__(self, step, word):
        RingError.__init__(self, "a text writes no steps")
        self.step = step
        self.word = word


class NoPaper(RingError):
    """A paper is not let by."""

    def __init__(self, word, at):
        RingError.__init__(self, "a paper is not let by")
        self.word = word
        self.at = at


class NoThin(RingError):
    """Rings are not thin."""

    def __init__(self, turn, other, piece):
        RingError.__init__(self, "rings are not thin")
        self.turn = turn
        self.other = other
        self.piece = piece


class NoSlide(RingError):
    """A slide can't be done."""

    def __init__(self, place):
        RingError.__init__(self, "a slide can't be done")
        self.place = place


class NoSurface(RingError):
    """No surface has so many letters and holes."""

    def __init__(self, letters, holes):
        RingError.__init__(self, "no surface has so many letters and holes")
        self.letters = letters
        self.holes = holes


class NoBand(RingError):
    """A band is not there, or can't be put in or taken out."""

    def __init__(self, letter):
        RingError.__init__(self, "no such band")
        self.letter = letter


class NoRow(RingError):
    """A desk doesn't know a row."""

    def __init__(self, row):
        RingError.__init__(self, "no such row")
        self.row = row


class NoWay(RingError):
    """A desk has no such way, or can't keep it."""

    def __init__(self, name):
        RingError.__init__(self, "no such way")
        self.name = name
