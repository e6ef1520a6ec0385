"""Papers: what stands under the place of each step of a run."""

from broadrow.alike import alike, are_numbers
from broadrow.course import course_of
from broadrow.single import own_copy
from broadrow.waits import waits


def paper(program, worths):
    """A list of tuples (place, rounds, flat, many), in the order in which the steps end; None where the run stops."""
    course = course_of(program, worths, True)
    if course.stop is not None:
        return None
    # Within a course flats are shared freely.
    return own_copy([(step[0], step[1], step[4], step[2]) for step in course.steps])


def is_paper(program, worths, thing):
    """Whether any thing is a paper of the run of the program."""
    waiting = waits(program, worths)
    # Ahead of the paper itself, which may be far greater than any thing.
    if waiting is None or not isinstance(thing, list) or len(thing) != len(waiting):
        return False
    due = {}
    for step in paper(program, worths):
        due[step[:2]] = step
    return all([is_step(one, due) for one in thing]) and is_in_order(thing, waiting)


def is_step(thing, due):
    """Whether any thing is one of the steps that are due, told by place and rounds."""
    if not isinstance(thing, tuple) or len(thing) != 4:
        return False
    # Only what is sure to be a place and rounds can be looked up; to Python True would be 1 there.
    if not are_numbers(thing[0]) or not are_numbers(thing[1]) or thing[:2] not in due:
        return False
    return alike(thing, due[thing[:2]])


def is_in_order(steps, waiting):
    """Whether each of as many steps as wait stands once, and behind those that it waits for."""
    ahead = {}
    for one in waiting:
        ahead[one[:2]] = [waiting[number][:2] for number in one[3]]
    seen = {}
    for step in steps:
        if step[:2] in seen or not all([one in seen for one in ahead[step[:2]]]):
            return False
        seen[step[:2]] = True
    return True
