"""What several tests need: things of all sorts, and programs made by a seeded chance."""

import copy
import random

from broadrow.kinds import is_kind
from broadrow.plain import read
from broadrow.trees import binding, parts, places

NUM = ("num",)
TRUTH = ("truth",)
GREAT = 10 ** 18
DEEP_KIND = ("row", ("row", ("row", ("row", NUM))))

SIGNS_BY_FORM = {
    "leaf": ("num", "yes", "no", "name", "none"),
    "one": ("not", "first", "second", "one", "upto", "long", "sum", "sums", "most", "flat"),
    "two": ("add", "sub", "mul", "div", "rest", "less", "same", "both", "pair", "pick", "join", "keep", "cut"),
    "more": ("let", "if", "each", "times"),
}
SIGNS = [sign for signs in SIGNS_BY_FORM.values() for sign in signs]

A, B, C = ("name", "a"), ("name", "b"), ("name", "c")


def row(kind):
    return ("row", kind)


def pair(one, other):
    return ("pair", one, other)


def num(number):
    return ("num", number)


def name(text):
    return ("name", text)


def one_of_each_sign():
    """A tree of each of the thirty-two signs, its parts the names a, b, c."""
    trees = [("num", 7), ("yes",), ("no",), ("name", "x"), ("none", row(NUM))]
    trees += [(sign, A) for sign in SIGNS_BY_FORM["one"]]
    trees += [(sign, A, B) for sign in SIGNS_BY_FORM["two"]]
    trees += [("let", "x", A, B), ("if", A, B, C), ("each", "x", A, B), ("times", "x", A, B, C)]
    return trees


def odd_things():
    """Things that are no kind, no tree, no name and no program."""
    deep = ()
    for _ in range(55):
        deep = (deep,)
    wide = [0] * 5000
    return [
        None, True, False, 0, 1, -1, 10 ** 59, "", "nun", "?", "num num", [], (), [()], ([],), ((),), (None,), (True,),
        (0,), ("",), ("nun",), ["num"], [["num"]], (["num"],), (("num",),), ("row",), ("pair",),
        ("pair", NUM), ("row", NUM, NUM, NUM, NUM, NUM), ("num", "num"), ("num", []), ("row", None), ("row", "num"),
        ("row", ["num"]), ("row", True), deep, wide, tuple(wide), (tuple(wide), wide), (None, None), ([], []),
        ((), []), ((), None), ((), ()), ("num", NUM), ("truth", TRUTH), ("pair", NUM, NUM, NUM), ("row", ()),
    ]


def refusal(kind, call, *some):
    """The error of a class that a call raises; anything else is a failed test."""
    try:
        told = call(*some)
    except kind as error:
        return error
    raise AssertionError(f"not refused, but told {told!r}")


def unchanged(call, *some):
    """What a call tells, once it is seen that it changes nothing of what was handed in."""
    before = copy.deepcopy(some)
    told = call(*some)
    if repr(some) != repr(before):
        raise AssertionError(f"handed in {before!r}, now {some!r}")
    return told


def lists_in(thing):
    """All lists within a thing, itself too."""
    found = [thing] if isinstance(thing, list) else []
    if isinstance(thing, (list, tuple)):
        for one in thing:
            found += lists_in(one)
    return found


def no_list_twice(*things):
    """Whether no list stands twice in these things, as the very same one."""
    ids = [id(one) for thing in things for one in lists_in(thing)]
    return len(ids) == len(set(ids))


def told_own(call, *given):
    """Sees that no list that a call tells is handed in or told again, and that changes of one leave the others alone."""
    told, again = call(*given), call(*given)
    before, after = repr(given), repr(again)
    if not no_list_twice(told, again, *given):
        raise AssertionError(f"a list stands twice in {told!r}, {again!r}, {given!r}")
    for one in lists_in(told):
        one.append(99)
    if (repr(given), repr(again), repr(call(*given))) != (before, after, after):
        raise AssertionError(f"changed with what was told: {before}, {after}")
    for one in lists_in(given):
        one.append(98)
    if repr(again) != after:
        raise AssertionError(f"changed with what was handed in: {before}, {after}")


def around(tree, place):
    """How many eaches have the place in their B, and times in their C."""
    many = 0
    piece = tree
    for number in place:
        if piece[0] in ("each", "times") and binding(piece) == number:
            many += 1
        piece = parts(piece)[number]
    return many


def full_tree(leaves, leaf=("num", 1)):
    """A tree of adds over so many leaves: twice as many pieces less one, as flat as can be."""
    row_of_trees = [leaf] * leaves
    while len(row_of_trees) > 1:
        pairs = [("add", *row_of_trees[at:at + 2]) for at in range(0, len(row_of_trees) - 1, 2)]
        row_of_trees = pairs + (row_of_trees[-1:] if len(row_of_trees) % 2 else [])
    return row_of_trees[0]


def chain(many, end=("yes",)):
    """A tree of so many pieces within one another."""
    tree = end
    for _ in range(many - 1):
        tree = ("not", tree)
    return tree


class Tracker:
    """Does a program that stops nowhere once more, one thing behind the other, and writes down of each meeting what it
    came to, one worth behind the other, and of which meetings all that came by which it was done."""

    def __init__(self, program, worths):
        self.worths, self.waits = {}, {}
        names = {head: (worth, None) for (head, _), worth in zip(program[0], worths)}
        self.worth = self.do(program[1], (), names, (), ())[0]

    def meet(self, place, rounds, worth, *waits):
        self.worths.setdefault((place, rounds), []).append(worth)
        self.waits.setdefault((place, rounds), set()).update(set(waits) - {None})
        return worth, (place, rounds)

    def do(self, tree, place, names, rounds, guards):
        """A tuple: what the tree comes to, and of which meeting it comes; so are the names' worths told."""
        way = {"name": self.do_name, "let": self.do_let, "if": self.do_if, "each": self.do_each, "times": self.do_times}
        return way.get(tree[0], self.do_single)(tree, place, names, rounds, guards)

    def part(self, number, tree, place, names, rounds, guards):
        return self.do(parts(tree)[number], place + (number,), names, rounds, guards)

    def do_single(self, tree, place, names, rounds, guards):
        come = [self.part(at, tree, place, names, rounds, guards) for at in range(len(parts(tree)))]
        heads = tuple([(head, NUM) for head in "ab"[:len(come)]])
        piece = (tree[0], *[name(head) for head, _ in heads]) if come else tree
        worth = read((heads, piece), [one for one, _ in come])[1]
        return self.meet(place, rounds, worth, *[came for _, came in come], *guards)

    def do_name(self, tree, place, names, rounds, guards):
        return names[tree[1]]

    def do_let(self, tree, place, names, rounds, guards):
        first = self.part(0, tree, place, names, rounds, guards)
        return self.part(1, tree, place, {**names, tree[1]: first}, rounds, guards)

    def do_if(self, tree, place, names, rounds, guards):
        truth, came = self.part(0, tree, place, names, rounds, guards)
        worth, arm = self.part(1 if truth else 2, tree, place, names, rounds, guards + (came,))
        return self.meet(place, rounds, worth, came, arm, *guards)

    def do_each(self, tree, place, names, rounds, guards):
        things, came = self.part(0, tree, place, names, rounds, guards)
        told = [self.part(1, tree, place, {**names, tree[1]: (thing, came)}, rounds, guards + (came,)) for thing in things]
        return self.meet(place, rounds, [worth for worth, _ in told], came, *[one for _, one in told], *guards)

    def do_times(self, tree, place, names, rounds, guards):
        many, came = self.part(0, tree, place, names, rounds, guards)
        last = self.part(1, tree, place, names, rounds, guards)
        waits = [came, last[1], *guards]
        for turn in range(many):
            last = self.part(2, tree, place, {**names, tree[1]: last}, rounds + (turn,), guards + (came,))
            waits.append(last[1])
        return self.meet(place, rounds, last[0], *waits)


class Maker:
    """Makes kinds, worths and programs that have kinds, by a chance that is the same each time."""

    def __init__(self, seed):
        self.chance = random.Random(seed)
        self.fresh = 0

    def kind(self, depth):
        words = ["num", "num", "truth"] + (["row", "row", "pair"] if depth > 1 else [])
        word = self.chance.choice(words)
        if word == "row":
            return row(self.kind(depth - 1))
        if word == "pair":
            return pair(self.kind(depth - 1), self.kind(depth - 1))
        return (word,)

    def worth(self, kind, longest=5):
        if kind == NUM:
            return self.chance.choice([0, 1, 2, 3, -1, 5, 60, 200, GREAT, -GREAT, self.chance.randint(-9, 9)])
        if kind == TRUTH:
            return self.chance.choice([True, False])
        if kind[0] == "pair":
            return (self.worth(kind[1], longest), self.worth(kind[2], longest))
        return [self.worth(kind[1], longest) for _ in range(self.chance.randint(0, longest))]

    def new_name(self):
        self.fresh += 1
        letters = "abcdefghijklmnopqrstuvwxyz"
        return "v" + letters[self.fresh // 26 % 26] + letters[self.fresh % 26]

    def tree(self, kind, names, depth):
        """A tree of the kind, by the names' kinds."""
        if depth <= 1:
            return self.leaf(kind, names)
        ways = [self.leaf, self.by_let, self.by_if, self.by_times, self.by_pick, self.by_first]
        own = {"num": self.by_num, "truth": self.by_truth, "pair": self.by_pair, "row": self.by_row}[kind[0]]
        way = self.chance.choice(ways + [own] * 6)
        if way == self.leaf:
            return self.leaf(kind, names)
        return way(kind, names, depth - 1)

    def leaf(self, kind, names):
        fitting = [one for one in names if names[one] == kind]
        if fitting and self.chance.random() < 0.7:
            return name(self.chance.choice(fitting))
        if kind == NUM:
            return num(self.chance.choice([0, 1, 2, 3, 7, 60, 61, 200, 201, GREAT]))
        if kind == TRUTH:
            return (self.chance.choice(["yes", "no"]),)
        if kind[0] == "pair":
            return ("pair", self.leaf(kind[1], names), self.leaf(kind[2], names))
        return ("none", kind[1])

    def by_let(self, kind, names, depth):
        bound, some = self.new_name(), self.kind(2)
        return ("let", bound, self.tree(some, names, depth), self.tree(kind, {**names, bound: some}, depth))

    def by_if(self, kind, names, depth):
        return ("if", *[self.tree(some, names, depth) for some in (TRUTH, kind, kind)])

    def by_times(self, kind, names, depth):
        bound = self.new_name()
        many = num(self.chance.choice([0, 1, 2, 3])) if self.chance.random() < 0.8 else self.tree(NUM, names, depth)
        return ("times", bound, many, self.tree(kind, names, depth), self.tree(kind, {**names, bound: kind}, depth))

    def by_pick(self, kind, names, depth):
        if not is_kind(row(kind)):
            return self.leaf(kind, names)
        return ("pick", self.tree(row(kind), names, depth), self.tree(NUM, names, depth))

    def by_first(self, kind, names, depth):
        if not is_kind(row(kind)):
            return self.leaf(kind, names)
        if self.chance.random() < 0.5:
            return ("first", self.tree(pair(kind, NUM), names, depth))
        return ("second", self.tree(pair(NUM, kind), names, depth))

    def by_num(self, kind, names, depth):
        sign = self.chance.choice(["long", "sum", "most", "add", "sub", "mul", "div", "rest"])
        if sign in ("long", "sum", "most"):
            return (sign, self.tree(row(NUM), names, depth))
        return (sign, self.tree(NUM, names, depth), self.tree(NUM, names, depth))

    def by_truth(self, kind, names, depth):
        sign = self.chance.choice(["not", "less", "same", "both"])
        if sign == "not":
            return (sign, self.tree(TRUTH, names, depth))
        some = NUM if sign == "less" else TRUTH if sign == "both" else self.chance.choice([NUM, TRUTH])
        return (sign, self.tree(some, names, depth), self.tree(some, names, depth))

    def by_pair(self, kind, names, depth):
        return ("pair", self.tree(kind[1], names, depth), self.tree(kind[2], names, depth))

    def by_row(self, kind, names, depth):
        signs = ["one", "join", "keep", "each", "each", "each", "each"]
        signs += ["upto", "upto", "sums"] if kind[1] == NUM else []
        signs += ["cut"] if kind[1][0] == "row" else []
        signs += ["flat"] if is_kind(row(kind)) else []
        sign = self.chance.choice(signs)
        if sign == "each":
            bound, some = self.new_name(), self.kind(2)
            return ("each", bound, self.tree(row(some), names, depth), self.tree(kind[1], {**names, bound: some}, depth))
        wanted = {
            "one": [kind[1]], "join": [kind, kind], "keep": [kind, row(TRUTH)], "upto": [NUM], "sums": [kind],
            "cut": [kind[1], row(NUM)], "flat": [row(kind)],
        }[sign]
        return (sign, *[self.tree(some, names, depth) for some in wanted])

    def program(self, depth=5):
        """A program that has kinds, and worths that fit its heads."""
        heads = tuple([(head, self.kind(3)) for head in ("r", "n", "s", "t")[:self.chance.randint(0, 4)]])
        tree = self.tree(self.kind(3), dict(heads), depth)
        while len(places(tree)) > 200:
            tree = self.tree(self.kind(3), dict(heads), depth)
        return (heads, tree), [self.worth(kind) for _, kind in heads]


class Ruler(Maker):
    """Makes programs in which many trees stand that rules may put otherwise, and many that they nearly may."""

    def tree(self, kind, names, depth):
        if depth <= 2 or self.chance.random() < 0.45:
            return Maker.tree(self, kind, names, depth)
        ways = [self.any_let, self.any_alias, self.any_if, self.any_pair, self.any_one, self.any_never, self.any_pick]
        own = {"num": self.some_num, "truth": self.some_truth, "pair": self.some_pair, "row": self.some_row}[kind[0]]
        return self.chance.choice(ways + [own] * 5)(kind, names, depth - 1)

    def any_let(self, kind, names, depth):
        return ("let", self.new_name(), self.tree(self.kind(2), names, depth), self.tree(kind, names, depth))

    def any_alias(self, kind, names, depth):
        if not names:
            return self.any_let(kind, names, depth)
        bound, other = self.new_name(), self.chance.choice(sorted(names))
        return ("let", bound, name(other), self.tree(kind, {**names, bound: names[other]}, depth))

    def any_if(self, kind, names, depth):
        one, other, truth = self.tree(kind, names, depth), self.tree(kind, names, depth), self.tree(TRUTH, names, depth)
        return self.chance.choice([("if", ("yes",), one, other), ("if", ("no",), one, other), ("if", truth, one, one), ("if", ("not", truth), one, other)])

    def any_pair(self, kind, names, depth):
        if not is_kind(row(kind)):
            return self.leaf(kind, names)
        one, other = self.tree(kind, names, depth), self.tree(self.kind(1), names, depth)
        return self.chance.choice([("first", ("pair", one, other)), ("second", ("pair", other, one))])

    def any_one(self, kind, names, depth):
        if not is_kind(row(kind)):
            return self.leaf(kind, names)
        one = ("one", self.tree(kind, names, depth))
        return ("flat", one) if kind[0] == "row" and self.chance.random() < 0.5 else ("pick", one, num(0))

    def any_never(self, kind, names, depth):
        bound = self.new_name()
        return ("times", bound, num(0), self.tree(kind, names, depth), self.tree(kind, {**names, bound: kind}, depth))

    def each(self, kind, names, depth):
        """An each that comes to a row of the kind."""
        bound, some = self.new_name(), self.chance.choice([NUM, TRUTH, self.kind(2)])
        return ("each", bound, self.tree(row(some), names, depth), self.tree(kind, {**names, bound: some}, depth))

    def any_pick(self, kind, names, depth):
        if not is_kind(row(kind)):
            return self.leaf(kind, names)
        return ("pick", self.each(kind, names, depth), self.chance.choice([num(0), num(1), self.tree(NUM, names, depth)]))

    def some_num(self, kind, names, depth):
        one, other = self.tree(NUM, names, depth), num(self.chance.choice([0, 1, 5, GREAT]))
        sign = self.chance.choice(["add", "sub", "mul", "div", "rest"])
        return self.chance.choice([
            (sign, one, one), (sign, one, num(0)), (sign, one, num(1)), (sign, num(0), one), (sign, num(1), one), (sign, other, num(3)),
            ("long", self.each(self.kind(2), names, depth)),
        ])

    def some_truth(self, kind, names, depth):
        one, number = self.tree(TRUTH, names, depth), self.tree(NUM, names, depth)
        return self.chance.choice([
            ("both", ("yes",), one), ("both", one, ("yes",)), ("both", one, one), ("not", ("not", one)), ("less", number, number), ("same", number, number),
        ])

    def some_pair(self, kind, names, depth):
        one = self.tree(kind[1], names, depth)
        return ("pair", one, one if kind[1] == kind[2] else self.tree(kind[2], names, depth))

    def some_row(self, kind, names, depth):
        one, bound, some = self.tree(kind, names, depth), self.new_name(), self.kind(2)
        ways = [("join", ("none", kind[1]), one), ("join", one, ("none", kind[1])), ("join", one, one), ("each", bound, one, name(bound))]
        ways += [("each", bound, self.each(some, names, depth), self.tree(kind[1], {**names, bound: some}, depth))] * 2
        if is_kind(row(kind)):
            inner = self.each(kind[1], names, depth)
            ways.append(("flat", inner[:3] + (("one", inner[3]),)))
        return self.chance.choice(ways)
