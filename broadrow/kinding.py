"""The kinds of a program's pieces."""

from broadrow.errors import NoKind, NoText
from broadrow.kinds import kind_text, read_kind
from broadrow.trees import binding, parts

LEAVES = {"num": ("num",), "yes": ("truth",), "no": ("truth",)}

# Of each sign the kinds of its parts, one behind the other, and the kind that it has; K and L stand for any kind.
RULES = {
    "not": (("truth", "truth"),),
    "first": (("pair K L", "K"),),
    "second": (("pair K L", "L"),),
    "one": (("K", "row K"),),
    "upto": (("num", "row num"),),
    "long": (("row K", "num"),),
    "sum": (("row num", "num"),),
    "sums": (("row num", "row num"),),
    "most": (("row num", "num"),),
    "flat": (("row row K", "row K"),),
    "add": (("num num", "num"),),
    "sub": (("num num", "num"),),
    "mul": (("num num", "num"),),
    "div": (("num num", "num"),),
    "rest": (("num num", "num"),),
    "less": (("num num", "truth"),),
    "same": (("num num", "truth"), ("truth truth", "truth")),
    "both": (("truth truth", "truth"),),
    "pair": (("K L", "pair K L"),),
    "pick": (("row K num", "K"),),
    "join": (("row K row K", "row K"),),
    "keep": (("row K row truth", "row K"),),
    "cut": (("row K row num", "row row K"),),
    "let": (("K L", "L"),),
    "if": (("truth K K", "K"),),
    "each": (("row K L", "row L"),),
    "times": (("num K K", "K"),),
}


def kinds_of(program):
    """The places and kinds of all pieces, in the order of doing; NoKind where one has none."""
    names = {}
    for name, kind in program[0]:
        names[name] = kind
    told = []
    add_kinds(program[1], (), names, told)
    return told


def add_kinds(tree, place, names, told):
    """Adds the tree's pieces' places and kinds to those told; gives back its own kind."""
    ins = []
    for number, part in enumerate(parts(tree)):
        inner = names
        if number == binding(tree):
            inner = with_bound(tree, place, names, ins)
        ins.append(add_kinds(part, place + (number,), inner, told))
    kind = own_kind(tree, names, ins)
    if kind is None:
        raise NoKind(place)
    told.append((place, kind))
    return kind


def with_bound(tree, place, names, ins):
    """The names' kinds with the one that a tree binds, by the kinds of the parts ahead."""
    kind = bound_kind(tree[0], ins)
    if kind is None:
        raise NoKind(place)
    inner = dict(names)
    inner[tree[1]] = kind
    return inner


def bound_kind(sign, ins):
    """The kind of the name that a let, each or times binds, None where the part that tells it is of a wrong one."""
    if sign == "let":
        return ins[0]
    if sign == "each":
        return ins[0][1] if ins[0][0] == "row" else None
    return ins[1] if ins[0] == ("num",) else None


def own_kind(tree, names, ins):
    """The kind that a piece has by those of its names and parts, None where it has none."""
    if tree[0] == "name":
        return names.get(tree[1])
    if tree[0] in LEAVES:
        return LEAVES[tree[0]]
    if tree[0] == "none":
        return kind_by("row K", {"K": tree[1]})
    for before, after in RULES[tree[0]]:
        found = fitted(before, ins)
        if found is not None:
            return kind_by(after, found)
    return None


def fitted(before, kinds):
    """What K and L stand for where the kinds are as the words tell, None where they are not."""
    found = {}
    ahead = list(kinds)
    for word in before.split(" "):
        kind = ahead.pop(0)
        if word in ("K", "L"):
            if found.setdefault(word, kind) != kind:
                return None
        elif word == kind[0]:
            ahead = list(kind[1:]) + ahead
        else:
            return None
    return found


def kind_by(after, found):
    """The kind that the words write with what K and L stand for, None where it is too deep to be one."""
    words = [kind_text(found[word]) if word in found else word for word in after.split(" ")]
    try:
        kind = read_kind(" ".join(words))
    except NoText:
        return None
    return kind
