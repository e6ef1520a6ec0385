"""How wide a piece is, done once."""

from broadrow.worths import size

# The part whose things are counted.
COUNTED = {"sum": 0, "sums": 0, "most": 0, "flat": 0, "cut": 1}

# The signs of which the size of what they come to is counted.
SIZED = ("pick", "join", "keep")


def width_once(sign, ins, worth):
    """The width of a piece that is no name, let, if, each or times, by its parts' worths and its own."""
    if sign in COUNTED:
        return 1 + len(ins[COUNTED[sign]])
    if sign == "upto":
        return 1 + len(worth)
    return 1 + size(worth) if sign in SIZED else 1


def if_width_once(brought, worth):
    """The width of an if, by the worths of the free names of the arm that is done and its own."""
    return 1 + sizes(brought) + size(worth)


def turns_width_once(many, brought):
    """The width of an each or times of so many things or turns, by the worths of the names that are brought to each."""
    return 1 + many * (1 + sizes(brought))


def sizes(worths):
    """The sizes of all these worths together."""
    return sum([size(worth) for worth in worths])
