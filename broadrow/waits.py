"""What each step of a run waits for."""

from broadrow.course import course_of
from broadrow.trees import binding, parts

# The first part of which A's worth tells whether it is done at all.
CHOSEN = {"if": 1, "each": 1, "times": 2}


class Source:
    """Where a worth comes from: the step at a place, or, turned, whatever the name of the times at the place stands
    for; deep is how many times have that place in their C."""

    def __init__(self, place, deep, turned):
        self.place = place
        self.deep = deep
        self.turned = turned


class Scope:
    """What is around a piece: the sources of the names but the heads', the sources of the worths by which it is done
    at all (its guards), and how many times have it in their C."""

    def __init__(self, names, guards, deep):
        self.names = names
        self.guards = guards
        self.deep = deep


class Site:
    """A piece, its source, None where that is a head, and its guards."""

    def __init__(self, piece, source, guards):
        self.piece = piece
        self.source = source
        self.guards = guards


def waits(program, worths):
    """A list of tuples (place, rounds, width, ahead), sorted; None where the run stops."""
    course = course_of(program, worths, False)
    if course.stop is not None:
        return None
    sites = {}
    add_sites(program[1], (), Scope({}, [], 0), sites)
    steps = sorted([step[:4] for step in course.steps])
    numbers = {}
    for number, step in enumerate(steps):
        numbers[step[:2]] = number
    told = []
    for step in steps:
        ahead = [numbers[one] for one in waited_for(step[0], step[1], sites, course.begun)]
        told.append((step[0], step[1], step[3], sorted(set(ahead))))
    return told


def add_sites(tree, place, scope, sites):
    """Adds the sites of the tree at a place, and of all within it."""
    for number, part in enumerate(parts(tree)):
        add_sites(part, place + (number,), inner_scope(tree, number, place, scope, sites), sites)
    if tree[0] == "name":
        source = scope.names.get(tree[1])
    elif tree[0] == "let":
        source = sites[place + (1,)].source
    else:
        source = Source(place, scope.deep, False)
    sites[place] = Site(tree, source, scope.guards)


def inner_scope(tree, number, place, scope, sites):
    """What is around a part of the tree at a place; the parts ahead of it have their sites."""
    names = dict(scope.names)
    guards = list(scope.guards)
    deep = scope.deep
    if number == binding(tree):
        turned = tree[0] == "times"
        names[tree[1]] = Source(place, deep, True) if turned else sites[place + (0,)].source
        deep = deep + 1 if turned else deep
    if is_chosen(tree, number):
        guards.append(sites[place + (0,)].source)
    return Scope(names, guards, deep)


def is_chosen(tree, number):
    """Whether A's worth tells if a part of the tree is done at all."""
    return tree[0] in CHOSEN and number >= CHOSEN[tree[0]]


def waited_for(place, rounds, sites, begun):
    """The steps, tuples (place, rounds), that the step at a place waits for in some rounds, perhaps some twice."""
    found = [step_of(guard, rounds, sites) for guard in sites[place].guards]
    piece = sites[place].piece
    for number in range(len(parts(piece))):
        inner = place + (number,)
        for within in rounds_of(piece, number, inner, rounds, begun):
            found.append(step_of(sites[inner].source, within, sites))
    return [one for one in found if one is not None]


def rounds_of(piece, number, inner, rounds, begun):
    """All rounds in which a part, which stands at the place inner, is done for a piece that is done in some rounds."""
    if not is_chosen(piece, number):
        return [rounds]
    if piece[0] != "times":
        return [rounds] if (inner, rounds) in begun else []
    told = []
    while (inner, rounds + (len(told),)) in begun:
        told.append(rounds + (len(told),))
    return told


def step_of(source, rounds, sites):
    """The step, a tuple (place, rounds), that a source tells in some rounds; None where there is none."""
    while source is not None and source.turned:
        turn = rounds[source.deep]
        if turn == 0:
            source = sites[source.place + (1,)].source
        else:
            rounds = rounds[:source.deep] + (turn - 1,)
            source = sites[source.place + (2,)].source
    return None if source is None else (source.place, rounds[:source.deep])
