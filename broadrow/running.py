"""The run: each wide row done for all things at once."""

from broadrow.course import course_of
from broadrow.flats import worths_of


def run(program, worths):
    """What the program comes to, or where it stops, for the worths of its heads, as the plain reading tells it."""
    course = course_of(program, worths, False)
    if course.stop is not None:
        return course.stop
    return ("is", worths_of(course.kind, course.flat, 1)[0])


def run_steps(program, worths):
    """The steps, tuples (place, rounds, met, width), in the order in which they end; None where the run stops."""
    course = course_of(program, worths, False)
    return None if course.stop is not None else [step[:4] for step in course.steps]
