"""The plain reading, one thing behind the other, and what it meets on its way."""

from broadrow.single import done
from broadrow.stops import Stop, turns_word
from broadrow.trees import binding, parts
from broadrow.widths import brought_names, if_width_once, turns_width_once, width_once


class Book:
    """The meetings of a reading: how often each was met, and how wide all these were together."""

    def __init__(self):
        self.often = {}
        self.wide = {}
        self.brought = {}

    def meet(self, place, rounds, width):
        """Writes down that a piece was met once more."""
        meeting = (place, rounds)
        self.often[meeting] = self.often.get(meeting, 0) + 1
        self.wide[meeting] = self.wide.get(meeting, 0) + width

    def brought_to(self, tree, number, place):
        """The names that are brought to a part of the tree at a place."""
        where = place + (number,)
        # A piece may be met again and again: its names are looked for once.
        if where not in self.brought:
            self.brought[where] = brought_names(tree, number)
        return list(self.brought[where])


class Around:
    """What a piece is read by: the names' worths, the turns of all eaches and times around it, those of times alone,
    and the book, None where nothing is written down."""

    def __init__(self, names, turns, rounds, book):
        self.names = names
        self.turns = turns
        self.rounds = rounds
        self.book = book


def reading(program, worths, book):
    """What the program comes to, or where it stops; what is told may hold lists that were handed in."""
    names = {}
    for head, worth in zip(program[0], worths):
        names[head[0]] = worth
    try:
        told = worth_of(program[1], (), Around(names, (), (), book))
    except Stop as stop:
        return ("stops", stop.word, stop.place, stop.turns)
    return ("is", told)


def worth_of(tree, place, around):
    """The worth of the tree at a place."""
    if tree[0] == "name":
        return around.names[tree[1]]
    if tree[0] in WAYS:
        return WAYS[tree[0]](tree, place, around)
    ins = [worth_of(part, place + (number,), around) for number, part in enumerate(parts(tree))]
    told = done(tree, ins)
    if told[1] is not None:
        raise Stop(told[1], place, around.turns)
    if around.book is not None:
        around.book.meet(place, around.rounds, width_once(tree[0], ins, told[0]))
    return told[0]


def inside(around, name, worth, turn, turn_of_times):
    """What is around a part in which a name is bound; both turns are tuples, of a number or without any."""
    names = dict(around.names)
    names[name] = worth
    return Around(names, around.turns + turn, around.rounds + turn_of_times, around.book)


def brought_worths(tree, number, place, around):
    """The worths of the names that are brought to a part of the tree at a place."""
    return [around.names[name] for name in around.book.brought_to(tree, number, place)]


def let_worth(tree, place, around):
    some = parts(tree)
    worth = worth_of(some[0], place + (0,), around)
    return worth_of(some[1], place + (1,), inside(around, tree[1], worth, (), ()))


def if_worth(tree, place, around):
    some = parts(tree)
    arm = 1 if worth_of(some[0], place + (0,), around) else 2
    told = worth_of(some[arm], place + (arm,), around)
    if around.book is not None:
        width = if_width_once(brought_worths(tree, arm, place, around), told)
        around.book.meet(place, around.rounds, width)
    return told


def each_worth(tree, place, around):
    some = parts(tree)
    told = []
    for number, thing in enumerate(worth_of(some[0], place + (0,), around)):
        inner = inside(around, tree[1], thing, (number,), ())
        told.append(worth_of(some[1], place + (1,), inner))
    meet_turns(tree, place, around, len(told))
    return told


def times_worth(tree, place, around):
    some = parts(tree)
    many = worth_of(some[0], place + (0,), around)
    told = worth_of(some[1], place + (1,), around)
    word = turns_word(many)
    if word is not None:
        raise Stop(word, place, around.turns)
    for number in range(many):
        inner = inside(around, tree[1], told, (number,), (number,))
        told = worth_of(some[2], place + (2,), inner)
    meet_turns(tree, place, around, many)
    return told


def meet_turns(tree, place, around, many):
    """Writes down an each or times that did so many things or turns."""
    if around.book is not None:
        width = turns_width_once(many, brought_worths(tree, binding(tree), place, around))
        around.book.meet(place, around.rounds, width)


WAYS = {"let": let_worth, "if": if_worth, "each": each_worth, "times": times_worth}
