"""The plain reading: one thing behind the other."""

from broadrow.single import done, own_copy, turns_word
from broadrow.trees import parts


class Stop(Exception):
    """What ends a reading ahead of its worth: a word at a place, in some turns."""

    def __init__(self, word, place, turns):
        Exception.__init__(self, word)
        self.word = word
        self.place = place
        self.turns = turns


def read(program, worths):
    """What the program comes to, or where it stops, for the worths of its heads."""
    names = {}
    for head, worth in zip(program[0], worths):
        names[head[0]] = worth
    try:
        told = worth_of(program[1], (), names, ())
    except Stop as stop:
        return ("stops", stop.word, stop.place, stop.turns)
    # Within a reading rows are shared freely, with what was handed in too.
    return ("is", own_copy(told))


def worth_of(tree, place, names, turns):
    """The worth of the tree at a place, by those of the names; turns are those of all eaches and times around."""
    if tree[0] == "name":
        return names[tree[1]]
    if tree[0] in WAYS:
        return WAYS[tree[0]](tree, place, names, turns)
    ins = [worth_of(part, place + (number,), names, turns) for number, part in enumerate(parts(tree))]
    told = done(tree, ins)
    if told[1] is not None:
        raise Stop(told[1], place, turns)
    return told[0]


def let_worth(tree, place, names, turns):
    some = parts(tree)
    inner = dict(names)
    inner[tree[1]] = worth_of(some[0], place + (0,), names, turns)
    return worth_of(some[1], place + (1,), inner, turns)


def if_worth(tree, place, names, turns):
    some = parts(tree)
    arm = 1 if worth_of(some[0], place + (0,), names, turns) else 2
    return worth_of(some[arm], place + (arm,), names, turns)


def each_worth(tree, place, names, turns):
    some = parts(tree)
    inner = dict(names)
    told = []
    for number, thing in enumerate(worth_of(some[0], place + (0,), names, turns)):
        inner[tree[1]] = thing
        told.append(worth_of(some[1], place + (1,), inner, turns + (number,)))
    return told


def times_worth(tree, place, names, turns):
    some = parts(tree)
    many = worth_of(some[0], place + (0,), names, turns)
    told = worth_of(some[1], place + (1,), names, turns)
    word = turns_word(many)
    if word is not None:
        raise Stop(word, place, turns)
    inner = dict(names)
    for number in range(many):
        inner[tree[1]] = told
        told = worth_of(some[2], place + (2,), inner, turns + (number,))
    return told


WAYS = {"let": let_worth, "if": if_worth, "each": each_worth, "times": times_worth}
