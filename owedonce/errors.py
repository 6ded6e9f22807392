"""The refusals of the program, each a class of its own."""


class OwedError(ValueError):
    """Any refusal."""


class NoText(OwedError):
    """A text is no text of a tuple: at is where that shows."""

    def __init__(self, at):
        self.at = at


class Stuck(OwedError):
    """A worth isn't as it must be: number is that of the going."""

    def __init__(self, number):
        self.number = number


class Lost(OwedError):
    """What was thrown away is asked: number is its number."""

    def __init__(self, number):
        self.number = number


class Missing(OwedError):
    """A part that nobody has is asked: place is its place."""

    def __init__(self, place):
        self.place = place


class NoKept(OwedError):
    """Nothing is kept under a name."""

    def __init__(self, name):
        self.name = name


class NoRow(OwedError):
    """A row is none of those that a desk takes."""

    def __init__(self, row):
        self.row = row


class TooMany(OwedError):
    """A limit, or a most, doesn't let by what it would take."""


class NoProgram(OwedError):
    """A tuple is no program."""


class NoDeed(OwedError):
    """There is no deed to take away."""
