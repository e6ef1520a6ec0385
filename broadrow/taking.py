"""What is taken of flats and put together of them."""

from broadrow.errors import NoThing
from broadrow.flats import many_in


def taken(kind, flat, numbers):
    """The flat of the worths that have these numbers, in that order; NoThing for the first that none has."""
    many = many_in(kind, flat)
    for number in numbers:
        # A number below 0 would count from the end.
        if not 0 <= number < many:
            raise NoThing(number)
    return taken_there(kind, flat, numbers)


def taken_there(kind, flat, numbers):
    """As taken, of numbers that are there."""
    if kind[0] == "pair":
        return (taken_there(kind[1], flat[0], numbers), taken_there(kind[2], flat[1], numbers))
    if kind[0] == "row":
        lengths = [flat[0][number] for number in numbers]
        return (lengths, taken_there(kind[1], flat[1], things_of(flat[0], numbers)))
    return [flat[number] for number in numbers]


def things_of(lengths, numbers):
    """The numbers that the things of these rows have among the things of all rows of such lengths."""
    starts = []
    start = 0
    for length in lengths:
        starts.append(start)
        start = start + length
    things = []
    for number in numbers:
        things.extend(list(range(starts[number], starts[number] + lengths[number])))
    return things


def behind(kind, one, other):
    """The flat of two flats' worths, one behind the other."""
    if kind[0] == "pair":
        return (behind(kind[1], one[0], other[0]), behind(kind[2], one[1], other[1]))
    if kind[0] == "row":
        return (one[0] + other[0], behind(kind[1], one[1], other[1]))
    return one + other


def kept(kind, flat, truths):
    """The flat of those worths at which the truths have True."""
    return taken_there(kind, flat, [number for number, truth in enumerate(truths) if truth])


def merged(kind, truths, one, other):
    """At each place the next worth of the first flat where the truths have True, else the next one of the second."""
    numbers = []
    ahead = 0
    after = many_in(kind, one)
    for truth in truths:
        if truth:
            numbers.append(ahead)
            ahead = ahead + 1
        else:
            numbers.append(after)
            after = after + 1
    return taken_there(kind, behind(kind, one, other), numbers)


def spread(kind, flat, lengths):
    """Each worth as often as the lengths tell."""
    numbers = []
    for number, length in enumerate(lengths):
        numbers.extend([number] * length)
    return taken_there(kind, flat, numbers)


def first_ones(kind, flat, many):
    """The flat of the first so many worths."""
    if kind[0] == "pair":
        return (first_ones(kind[1], flat[0], many), first_ones(kind[2], flat[1], many))
    if kind[0] == "row":
        lengths = flat[0][:many]
        return (lengths, first_ones(kind[1], flat[1], sum(lengths)))
    return flat[:many]
