"""The refusals: one class for each, all under BroadError."""


class BroadError(ValueError):
    """Any refusal."""


class NoText(BroadError):
    """A text that doesn't write what it should; at is the number of the first word that can't stand there."""

    def __init__(self, at):
        BroadError.__init__(self, f"nothing is written so, seen at word {at}")
        self.at = at


class NoKind(BroadError):
    """A program with a piece that has no kind; place is where it stands."""

    def __init__(self, place):
        BroadError.__init__(self, f"no kind at {place!r}")
        self.place = place


class NoPlace(BroadError):
    """A place that a tree doesn't have."""

    def __init__(self, place):
        BroadError.__init__(self, f"no piece at {place!r}")
        self.place = place


class NoThing(BroadError):
    """A number that no worth of a flat has."""

    def __init__(self, number):
        BroadError.__init__(self, f"no worth has the number {number}")
        self.number = number


class NoRule(BroadError):
    """A rule that is none, or doesn't fit."""

    def __init__(self, text):
        BroadError.__init__(self, text)
        self.text = text


class NoLine(BroadError):
    """A row that the desk doesn't take."""

    def __init__(self, text):
        BroadError.__init__(self, text)
        self.text = text
