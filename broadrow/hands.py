"""Hands: steps dealt to a few of them, and what shows how few beats this takes at least."""

from broadrow.alike import alike, are_numbers


def timetable(steps, hands):
    """The beats in which each hand does whatever can be done, lesser numbers first."""
    left = [step[2] for step in steps]
    awaited = [len(step[3]) for step in steps]
    later = those_behind(steps)
    # Falling, so that the least number is taken off the end.
    ready = [number for number in range(len(steps) - 1, -1, -1) if awaited[number] == 0]
    beats = []
    while ready:
        beat = deal(ready, left, hands)
        # What can be done once these are ended can be done from the next beat on.
        for number in [one[0] for one in beat if left[one[0]] == 0]:
            for other in later[number]:
                awaited[other] = awaited[other] - 1
                if awaited[other] == 0:
                    put_falling(ready, other)
        beats.append(beat)
    return beats


def those_behind(steps):
    """Of each step a list of those that wait for it."""
    told = [[] for step in steps]
    for number, step in enumerate(steps):
        for one in step[3]:
            told[one].append(number)
    return told


def deal(ready, left, hands):
    """One beat; takes off what is done of what is left of each step, and off the ready ones those that are ended."""
    beat = []
    free = hands
    while free > 0 and ready:
        number = ready[-1]
        many = min(free, left[number])
        beat.append((number, many))
        free = free - many
        left[number] = left[number] - many
        if left[number] == 0:
            ready.pop()
    return beat


def put_falling(numbers, number):
    """Puts a number among numbers that fall."""
    low = 0
    high = len(numbers)
    while low < high:
        middle = (low + high) // 2
        if numbers[middle] > number:
            low = middle + 1
        else:
            high = middle
    numbers.insert(low, number)


def is_timetable(steps, hands, thing):
    """Whether any thing is a timetable of the steps for so many hands."""
    if not isinstance(thing, list):
        return False
    left = [step[2] for step in steps]
    for beat in thing:
        if not is_beat(beat, len(steps), hands):
            return False
        # Looked at ahead of what this beat does: a step waits for all that is done in its own beat, too.
        for one in beat:
            if any([left[other] != 0 for other in steps[one[0]][3]]):
                return False
        for one in beat:
            left[one[0]] = left[one[0]] - one[1]
    return all([many == 0 for many in left])


def is_beat(thing, many, hands):
    """Whether any thing may be a beat of so many steps."""
    if not isinstance(thing, list) or not all([is_dealt(one, many) for one in thing]):
        return False
    numbers = [one[0] for one in thing]
    return numbers == sorted(set(numbers)) and sum([one[1] for one in thing]) <= hands


def is_dealt(thing, many):
    """Whether any thing is a tuple (number, many), of one of so many steps."""
    return are_numbers(thing) and len(thing) == 2 and 0 <= thing[0] < many and thing[1] >= 1


def shown(steps, hands):
    """What shows best that no timetable takes fewer beats than a number."""
    least = least_by_width(steps, hands)
    row = longest_row(steps)
    return ("chain", row) if len(row) > least else ("width", least)


def shows(steps, hands, thing):
    """The number of beats of which any thing shows that no timetable takes fewer; None where it shows nothing."""
    if not isinstance(thing, tuple) or len(thing) != 2:
        return None
    least = least_by_width(steps, hands)
    if alike(thing, ("width", least)):
        return least
    return len(thing[1]) if thing[0] == "chain" and is_waiting_row(steps, thing[1]) else None


def least_by_width(steps, hands):
    """The widths in all over the hands, rounded up."""
    return (sum([step[2] for step in steps]) + hands - 1) // hands


def is_waiting_row(steps, thing):
    """Whether any thing is a list of steps each of which waits for the one ahead."""
    if not isinstance(thing, list) or not are_numbers(tuple(thing)):
        return False
    if not all([0 <= number < len(steps) for number in thing]):
        return False
    return all([ahead in steps[number][3] for ahead, number in zip(thing, thing[1:])])


def longest_row(steps):
    """A longest list of steps each of which waits for the one ahead."""
    lengths = [0] * len(steps)
    for number in in_order(steps):
        lengths[number] = 1 + max([lengths[one] for one in steps[number][3]], default=0)
    told = []
    # Backwards: from one of the longest to what it waits for, one shorter each.
    choice = list(range(len(steps)))
    for length in range(max(lengths, default=0), 0, -1):
        told.append([number for number in choice if lengths[number] == length][0])
        choice = steps[told[-1]][3]
    told.reverse()
    return told


def in_order(steps):
    """The numbers of all steps, each behind those that it waits for."""
    awaited = [len(step[3]) for step in steps]
    later = those_behind(steps)
    told = [number for number, many in enumerate(awaited) if many == 0]
    at = 0
    while at < len(told):
        number = told[at]
        for other in later[number]:
            awaited[other] = awaited[other] - 1
            if awaited[other] == 0:
                told.append(other)
        at = at + 1
    return told
