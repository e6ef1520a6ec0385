"""The course of a run: wide rows done for all things of a frame, and what is written down on the way."""

from broadrow.flats import flat_of
from broadrow.frames import Frame, part_of, row_around, some_of, spread_of
from broadrow.laid import laid
from broadrow.stops import turns_word
from broadrow.taking import kept, merged
from broadrow.wide import wide_step
from broadrow.widths import if_width_of_all, turns_width_of_all, width_of_all


class Course:
    """What a run comes to, the stop that was kept last, its steps as they end, tuples (place, rounds, met, width,
    flat), and in which rounds the parts are done that need not be done."""

    def __init__(self, with_flats):
        self.with_flats = with_flats
        self.stop = None
        self.steps = []
        self.begun = {}
        self.kind = None
        self.flat = None

    def stop_at(self, word, place, number, frame):
        """Keeps a stop in the place of what was kept before, and leaves the frame the things ahead of it."""
        self.stop = ("stops", word, place, frame.turns[number])
        frame.cut(number)

    def end(self, place, frame, width):
        """Writes down that a step is done for all things of the frame."""
        # Once something stopped the run has no steps to tell.
        if self.stop is None:
            # Flats may be far greater than the steps are wide: they are kept for papers alone.
            flat = frame.flats[place] if self.with_flats else None
            self.steps.append((place, frame.rounds, frame.many(), width, flat))

    def begin(self, place, rows, frame):
        """Does the rows of a part that is done only where there are things for it."""
        if frame.turns:
            self.begun[(place, frame.rounds)] = True
        do_rows(rows, frame, self)


def course_of(program, worths, with_flats):
    """The course of the program's run; the flats that it keeps may share lists with one another."""
    course = Course(with_flats)
    frame = Frame([()], ())
    for head, worth in zip(program[0], worths):
        frame.lay(head[0], head[1], flat_of(head[1], [worth]))
    do_rows(laid(program), frame, course)
    if course.stop is None:
        course.kind = frame.kinds[()]
        course.flat = frame.flats[()]
    return course


def do_rows(rows, frame, course):
    """Does the rows one by one, as long as the frame has things."""
    for row in rows:
        if frame.turns:
            DOINGS[row[0]](row, frame, course)


def do_again(row, frame, course):
    """Of a call and of a let: what stands under one place or name stands under another, too."""
    frame.lay(row[1], frame.kinds[row[2]], frame.flats[row[2]])


def do_piece(row, frame, course):
    place = row[1]
    kinds = [frame.kinds[one] for one in row[4]]
    flats = [frame.flats[one] for one in row[4]]
    piece = row[2] if isinstance(row[2], tuple) else (row[2],) + (None,) * len(flats)
    told = wide_step(piece, kinds, flats, frame.many())
    if told[2] is not None:
        course.stop_at(told[2], place, told[1], frame)
    frame.lay(place, row[3], told[0])
    course.end(place, frame, width_of_all(piece[0], flats, row[3], told[0], told[1]))


def do_arms(row, frame, course):
    place = row[1]
    kind = row[2]
    one = do_arm(row, 1, frame, course)
    other = do_arm(row, 2, frame, course)
    truths = frame.flats[row[3]]
    # What the second arm leaves out may stand ahead of things of the first one, which are done by then.
    one.cut(truths.count(True))
    told = merged(kind, truths, one.told(place + (1,), kind), other.told(place + (2,), kind))
    frame.lay(place, kind, told)
    brought = one.under(row[4]) + other.under(row[6])
    course.end(place, frame, if_width_of_all(brought, kind, told, frame.many()))


def do_arm(row, arm, frame, course):
    """Does an arm for those things of the frame that the truths send there, and tells their frame."""
    numbers = [number for number, truth in enumerate(frame.flats[row[3]]) if truth == (arm == 1)]
    inner = part_of(frame, numbers, row[2 + 2 * arm], ())
    course.begin(row[1] + (arm,), row[3 + 2 * arm], inner)
    if inner.many() < len(numbers):
        frame.cut(numbers[inner.many()])
    return inner


def do_within(row, frame, course):
    place = row[1]
    lengths = frame.flats[row[4]][0]
    inner = spread_of(frame, lengths, row[5])
    inner.lay(row[3], frame.kinds[row[4]][1], frame.flats[row[4]][1])
    course.begin(place + (1,), row[6], inner)
    if inner.many() < sum(lengths):
        frame.cut(row_around(lengths, inner.many()))
        lengths = frame.flats[row[4]][0]
        # Those ahead of it in its own row are done by then.
        inner.cut(sum(lengths))
    frame.lay(place, row[2], (lengths, inner.told(place + (1,), row[2][1])))
    width = turns_width_of_all([(inner.many(), inner.under(row[5]))], frame.many())
    course.end(place, frame, width)


def do_rounds(row, frame, course):
    place = row[1]
    far = first_far(frame.flats[row[4]])
    if far < frame.many():
        course.stop_at(turns_word(frame.flats[row[4]][far]), place, far, frame)
    # Under the place stands what the things have come to so far.
    frame.lay(place, row[2], frame.flats[row[5]])
    frames = []
    going = going_on(row, 0, frame)
    while going:
        frames.append(do_turn(row, going, len(frames), frame, course))
        going = going_on(row, len(frames), frame)
    course.end(place, frame, turns_width_of_all(frames, frame.many()))


def first_far(numbers):
    """The number of the first thing whose times is stopped ahead of its turns; how many there are, if none is."""
    for number, many in enumerate(numbers):
        if turns_word(many) is not None:
            return number
    return len(numbers)


def going_on(row, turn, frame):
    """The numbers of the things that have such a turn."""
    return [number for number, many in enumerate(frame.flats[row[4]]) if many > turn]


def do_turn(row, going, turn, frame, course):
    """Does a turn of a times for the things that have it; tells how many these were, and what was brought to them."""
    place = row[1]
    kind = row[2]
    inner = part_of(frame, going, row[6], (turn,))
    inner.lay(row[3], kind, some_of(kind, frame.flats[place], going, frame.many()))
    course.begin(place + (2,), row[7], inner)
    if inner.many() < len(going):
        frame.cut(going[inner.many()])
    told = inner.told(place + (2,), kind)
    if inner.many() < frame.many():
        ended = [many <= turn for many in frame.flats[row[4]]]
        told = merged(kind, ended, kept(kind, frame.flats[place], ended), told)
    frame.lay(place, kind, told)
    return (len(going), inner.under(row[6]))


DOINGS = {
    "do": do_piece, "call": do_again, "let": do_again, "arms": do_arms, "within": do_within, "rounds": do_rounds,
}
