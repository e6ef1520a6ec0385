"""How wide a piece is: done once, by worths, and for many things together, by their flats."""

from broadrow.flats import size_in
from broadrow.trees import binding, free_names, parts
from broadrow.worths import size

# The part whose things are counted.
COUNTED = {"sum": 0, "sums": 0, "most": 0, "flat": 0, "cut": 1}

# The signs of which the size of what they come to is counted.
SIZED = ("pick", "join", "keep")


def brought_names(tree, number):
    """The names that are brought to a part of a tree, sorted: those free in it that the tree doesn't bind."""
    bound = tree[1] if number == binding(tree) else None
    return [name for name in free_names(parts(tree)[number]) if name != bound]


def width_once(sign, ins, worth):
    """The width of a piece that is no name, let, if, each or times, by its parts' worths and its own."""
    if sign in COUNTED:
        return 1 + len(ins[COUNTED[sign]])
    if sign == "upto":
        return 1 + len(worth)
    return 1 + size(worth) if sign in SIZED else 1


def if_width_once(brought, worth):
    """The width of an if, by the worths of the free names of the arm that is done and its own."""
    return 1 + sum([size(one) for one in brought]) + size(worth)


def turns_width_once(many, brought):
    """The width of an each or times of so many things or turns, by the worths of the names that are brought to each."""
    return 1 + many * (1 + sum([size(one) for one in brought]))


def width_of_all(sign, flats, kind, flat, many):
    """As width_once, of so many things together: by the parts' flats, and the kind and flat of what it comes to."""
    if sign in COUNTED:
        return many + sum(flats[COUNTED[sign]][0])
    if sign == "upto":
        return many + sum(flat[0])
    return many + size_in(kind, flat) if sign in SIZED else many


def if_width_of_all(brought, kind, flat, many):
    """As if_width_once; brought are tuples (kind, flat), of the names of each arm for the things that do it."""
    return many + sizes_in(brought) + size_in(kind, flat)


def turns_width_of_all(frames, many):
    """As turns_width_once; frames are tuples (many, brought), of each turn, or of all things of an each together."""
    return many + sum([frame[0] + sizes_in(frame[1]) for frame in frames])


def sizes_in(brought):
    """The sizes of the worths of all these flats together, each told with its kind."""
    return sum([size_in(one[0], one[1]) for one in brought])
