"""The plain reading: one thing behind the other."""

from broadrow.reading import reading
from broadrow.single import own_copy


def read(program, worths):
    """What the program comes to, or where it stops, for the worths of its heads."""
    # Within a reading rows are shared freely, with what was handed in too.
    return own_copy(reading(program, worths, None))
