"""Programs put otherwise by rules, and where their places go."""

from broadrow.errors import NoRule
from broadrow.recast import may_stop, moved, recast, rule_names
from broadrow.trees import places


def is_sure(tree):
    """Whether a tree can't stop."""
    return not may_stop(tree)


def fitting(program):
    """All tuples (rule, place) by which the program may be put otherwise, by places and then by the rules' names."""
    told = []
    for place in places(program[1]):
        told.extend([(rule, place) for rule in rule_names() if recast(program, rule, place) is not None])
    return told


def put_otherwise(program, rule, place):
    """The program that comes of a rule at a place, both any things; NoRule where none does."""
    return recast_or_refused(program, rule, place)[0]


def now_at(program, rule, place, old):
    """Where a place of the elder program goes, None where it goes nowhere; NoRule as put_otherwise."""
    row = recast_or_refused(program, rule, place)[1]
    # Beside the old tree, and around it, all stays.
    if old[:len(place)] != place:
        return old
    inner = moved(row, old[len(place):])
    return None if inner is None else place + inner


def recast_or_refused(program, rule, place):
    """As recast, but refused with NoRule."""
    told = recast(program, rule, place)
    if told is None:
        raise NoRule(f"{rule!r} does not fit at {place!r}")
    return told
