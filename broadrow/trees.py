"""Trees: what they are, their parts and places, what they bind and what is free in them."""

from broadrow.errors import NoPlace
from broadrow.kinds import is_kind
from broadrow.worths import is_worth

# How many parts each sign has.
PARTS = {
    "num": 0, "yes": 0, "no": 0, "name": 0, "none": 0,
    "not": 1, "first": 1, "second": 1, "one": 1, "upto": 1,
    "long": 1, "sum": 1, "sums": 1, "most": 1, "flat": 1,
    "add": 2, "sub": 2, "mul": 2, "div": 2, "rest": 2, "less": 2, "same": 2,
    "both": 2, "pair": 2, "pick": 2, "join": 2, "keep": 2, "cut": 2,
    "let": 2, "if": 3, "each": 2, "times": 3,
}

# What stands between a sign and its parts, where something does.
AHEAD = {"num": "number", "name": "name", "none": "kind", "let": "name", "each": "name", "times": "name"}

BINDING = {"let": 1, "each": 1, "times": 2}

LONGEST_NAME = 8


def is_name(thing):
    """Whether any thing is a name."""
    if not isinstance(thing, str) or not 1 <= len(thing) <= LONGEST_NAME:
        return False
    if thing in PARTS or thing in ("truth", "row"):
        return False
    return all(["a" <= sign <= "z" for sign in thing])


def is_tree(thing):
    """Whether any thing is a tree."""
    if not isinstance(thing, tuple) or len(thing) == 0:
        return False
    # Only a text may be looked up: a list would not be refused but fail.
    if not isinstance(thing[0], str) or thing[0] not in PARTS:
        return False
    start = parts_start(thing[0])
    if len(thing) != start + PARTS[thing[0]]:
        return False
    if start == 2 and not may_stand_ahead(AHEAD[thing[0]], thing[1]):
        return False
    return all([is_tree(part) for part in thing[start:]])


def may_stand_ahead(what, thing):
    """Whether a thing is what is asked for between a sign and its parts."""
    if what == "number":
        return is_worth(("num",), thing) and thing >= 0
    if what == "kind":
        return is_kind(thing)
    return is_name(thing)


def parts_start(sign):
    """Where in the tuple the parts begin."""
    return 2 if sign in AHEAD else 1


def parts(tree):
    """A tree's parts."""
    return tree[parts_start(tree[0]):]


def with_parts(tree, some):
    """The tree with these parts in the place of its own."""
    return tree[:parts_start(tree[0])] + tuple(some)


def binding(tree):
    """The number of the part in which the tree binds its name, None where it binds none."""
    return BINDING.get(tree[0])


def places(tree):
    """All places of a tree, in the order of doing."""
    told = []
    add_places(tree, (), told)
    return told


def add_places(tree, place, told):
    """Adds the places of the tree that stands at a place to those told."""
    for number, part in enumerate(parts(tree)):
        add_places(part, place + (number,), told)
    told.append(place)


def part_at(tree, place):
    """The piece at a place; NoPlace where there is none."""
    piece = tree
    for number in place:
        some = parts(piece)
        # A number below 0 would count from the end.
        if not is_worth(("num",), number) or not 0 <= number < len(some):
            raise NoPlace(place)
        piece = some[number]
    return piece


def put_at(tree, place, other):
    """The tree with another one put at a place; NoPlace where there is none."""
    part_at(tree, place)
    return replaced(tree, place, other)


def replaced(tree, place, other):
    """As put_at, at a place that is there."""
    if len(place) == 0:
        return other
    some = list(parts(tree))
    some[place[0]] = replaced(some[place[0]], place[1:], other)
    return with_parts(tree, some)


def free_names(tree):
    """The names that are free in a tree, sorted."""
    found = {}
    add_free(tree, (), found)
    return sorted(found)


def add_free(tree, bound, found):
    """Adds to those found the tree's names that are not among the bound ones."""
    if tree[0] == "name" and tree[1] not in bound:
        found[tree[1]] = True
    where = binding(tree)
    for number, part in enumerate(parts(tree)):
        add_free(part, bound + (tree[1],) if number == where else bound, found)
