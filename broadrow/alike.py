"""Whether two things are the same, where to Python True and 1 would be one."""


def alike(one, other):
    """Whether any two things are the same, and so are all within them."""
    if sort_of(one) != sort_of(other):
        return False
    if not isinstance(one, (list, tuple)):
        return one == other
    if len(one) != len(other):
        return False
    for mine, theirs in zip(one, other):
        if not alike(mine, theirs):
            return False
    return True


def sort_of(thing):
    """A word for what any thing is."""
    # A truth is an int to Python: it is asked for first.
    if isinstance(thing, bool):
        return "truth"
    if isinstance(thing, int):
        return "number"
    if isinstance(thing, str):
        return "text"
    if isinstance(thing, list):
        return "list"
    return "tuple" if isinstance(thing, tuple) else "none"


def are_numbers(thing):
    """Whether any thing is a tuple of whole numbers alone."""
    return isinstance(thing, tuple) and all([sort_of(one) == "number" for one in thing])
