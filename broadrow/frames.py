"""Frames: things that are done at once, and the flats that stand for them under places and names."""

from broadrow.flats import flat_of
from broadrow.taking import first_ones, spread, taken


class Frame:
    """The turns of each thing, the rounds that all of them share, and what stands under places and names."""

    def __init__(self, turns, rounds):
        self.turns = turns
        self.rounds = rounds
        self.kinds = {}
        self.flats = {}

    def many(self):
        """How many things there are."""
        return len(self.turns)

    def lay(self, where, kind, flat):
        """Puts a flat under a place or a name."""
        self.kinds[where] = kind
        self.flats[where] = flat

    def told(self, where, kind):
        """The flat of a kind under a place; that of no worths where no things are there to do it."""
        return self.flats[where] if self.turns else flat_of(kind, [])

    def under(self, names):
        """A list of tuples (kind, flat), of the names."""
        return [(self.kinds[name], self.flats[name]) for name in names]

    def cut(self, many):
        """Leaves only the first so many things."""
        if many == self.many():
            return
        self.turns = self.turns[:many]
        for where in list(self.flats):
            self.flats[where] = first_ones(self.kinds[where], self.flats[where], many)


def some_of(kind, flat, numbers, many):
    """The flat of those of so many worths that have these numbers, which rise."""
    # Where all go on, nothing is to be sought out: a turn of a times then costs no more than its steps.
    return flat if len(numbers) == many else taken(kind, flat, numbers)


def part_of(frame, numbers, brought, turn):
    """The frame of the things that have these numbers, with the brought names; turn is a tuple, of the number of the
    turn of a times or without any."""
    inner = Frame([frame.turns[number] + turn for number in numbers], frame.rounds + turn)
    for name in brought:
        kind = frame.kinds[name]
        inner.lay(name, kind, some_of(kind, frame.flats[name], numbers, frame.many()))
    return inner


def spread_of(frame, lengths, brought):
    """The frame of all things of rows of these lengths, one for each thing, with the brought names told for each."""
    turns = []
    for around, length in zip(frame.turns, lengths):
        turns.extend([around + (number,) for number in range(length)])
    inner = Frame(turns, frame.rounds)
    for name in brought:
        kind = frame.kinds[name]
        inner.lay(name, kind, spread(kind, frame.flats[name], lengths))
    return inner


def row_around(lengths, number):
    """The number of that one of the rows of these lengths in which the thing numbered so among all things stands."""
    told = 0
    up_to = lengths[0]
    while number >= up_to:
        told = told + 1
        up_to = up_to + lengths[told]
    return told
