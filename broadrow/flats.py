"""Flats: many worths of one kind, told by as few lists as the kind has words."""

from broadrow.single import in_rows, own_copy
from broadrow.stops import LONGEST
from broadrow.worths import is_worth


def flat_of(kind, worths):
    """The flat of some worths of a kind."""
    if kind[0] == "pair":
        return (flat_of(kind[1], [worth[0] for worth in worths]), flat_of(kind[2], [worth[1] for worth in worths]))
    if kind[0] == "row":
        things = []
        for worth in worths:
            things.extend(worth)
        return ([len(worth) for worth in worths], flat_of(kind[1], things))
    return list(worths)


def worths_of(kind, flat, many):
    """The worths, so many, of which this is the flat."""
    if kind[0] == "pair":
        return list(zip(worths_of(kind[1], flat[0], many), worths_of(kind[2], flat[1], many)))
    if kind[0] == "row":
        return in_rows(flat[0], worths_of(kind[1], flat[1], sum(flat[0])))
    return list(flat)


def is_flat(kind, thing, many):
    """Whether any thing is the flat of so many worths of the kind."""
    if kind[0] == "pair":
        return is_couple(thing) and is_flat(kind[1], thing[0], many) and is_flat(kind[2], thing[1], many)
    if kind[0] == "row":
        # The lengths are looked at first: their sum tells how many things there must be.
        return is_couple(thing) and are_lengths(thing[0], many) and is_flat(kind[1], thing[1], sum(thing[0]))
    return isinstance(thing, list) and len(thing) == many and all([is_worth(kind, one) for one in thing])


def is_couple(thing):
    """Whether any thing is a tuple of two."""
    return isinstance(thing, tuple) and len(thing) == 2


def are_lengths(thing, many):
    """Whether any thing is a list of so many lengths that rows may have."""
    if not is_flat(("num",), thing, many):
        return False
    return all([0 <= length <= LONGEST for length in thing])


def many_in(kind, flat):
    """How many worths a flat has."""
    if kind[0] == "pair":
        return many_in(kind[1], flat[0])
    return len(flat[0]) if kind[0] == "row" else len(flat)


def size_in(kind, flat):
    """The sizes of a flat's worths together."""
    if kind[0] == "pair":
        return size_in(kind[1], flat[0]) + size_in(kind[2], flat[1])
    if kind[0] == "row":
        return len(flat[0]) + size_in(kind[1], flat[1])
    return len(flat)


def parted(lengths, things):
    """A list's things parted into rows of these lengths."""
    # The things may be lists themselves: what is told holds none of those handed in.
    return in_rows(lengths, own_copy(things))
