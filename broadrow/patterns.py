"""Patterns: trees in which letters stand for what may be there, a tree, a name, a kind or a number."""

from broadrow.trees import parts


def matched(pattern, tree):
    """What each letter of the pattern stands for, a dict; None where the tree is not as it tells."""
    found = {}
    return found if is_matched(pattern, tree, found) else None


def is_matched(pattern, thing, found):
    """Whether the thing is as the pattern tells, with what is found by now; adds to it."""
    if isinstance(pattern, str):
        # A letter that stands twice stands for the same both times.
        return found.setdefault(pattern, thing) == thing
    if not isinstance(pattern, tuple):
        return pattern == thing
    if pattern[0] != thing[0]:
        return False
    for inner, one in zip(pattern[1:], thing[1:]):
        if not is_matched(inner, one, found):
            return False
    return True


def filled(pattern, found):
    """The tree that the pattern tells with what its letters stand for."""
    if isinstance(pattern, str):
        return found[pattern]
    return (pattern[0],) + tuple([filled(inner, found) for inner in pattern[1:]])


def spots(pattern, place):
    """A list of tuples (letter, place), of all letters of the pattern that stand for trees, the pattern at a place."""
    if isinstance(pattern, str):
        return [(pattern, place)]
    told = []
    for number, inner in enumerate(parts(pattern)):
        told.extend(spots(inner, place + (number,)))
    return told
