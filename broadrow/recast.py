"""The rules by which programs are put otherwise, and what comes of one at a place."""

from broadrow.alike import are_numbers
from broadrow.errors import NoPlace
from broadrow.kinding import kinds_of
from broadrow.patterns import filled, matched, spots
from broadrow.programs import is_program, program_text
from broadrow.single import done
from broadrow.trees import binding, free_names, is_name, part_at, parts, places, put_at, with_parts

LETTERS = "abcdefghijklmnopqrstuvwxyz"

# The signs that may stop.
STOPPING = (
    "sum", "sums", "most", "upto", "flat", "add", "sub", "mul", "div", "rest", "pick", "join", "keep", "cut", "times",
)

# Of each rule its rows: the tree as it stands, the tree that comes of it and, where a piece of the tree's own stays,
# from where to where it goes. What the letters stand for is asked for further below.
RULES = {
    "drop": ((("let", "x", "A", "B"), "B"),),
    "alias": ((("let", "x", ("name", "y"), "B"), "B"),),
    "known": ((("if", ("yes",), "B", "C"), "B"), (("if", ("no",), "B", "C"), "C")),
    "alike": ((("if", "A", "B", "B"), "B"),),
    "turn": ((("if", ("not", "A"), "B", "C"), ("if", "A", "C", "B"), ((), ())),),
    "yes": ((("both", ("yes",), "A"), "A"), (("both", "A", ("yes",)), "A")),
    "notnot": ((("not", ("not", "A")), "A"),),
    "nought": (
        (("add", "A", ("num", 0)), "A"), (("sub", "A", ("num", 0)), "A"), (("add", ("num", 0), "A"), "A"),
        (("mul", "A", ("num", 1)), "A"), (("div", "A", ("num", 1)), "A"), (("mul", ("num", 1), "A"), "A"),
    ),
    "reckon": (
        (("add", ("num", "n"), ("num", "m")), ("num", "k")),
        (("sub", ("num", "n"), ("num", "m")), ("num", "k")),
        (("mul", ("num", "n"), ("num", "m")), ("num", "k")),
    ),
    "first": ((("first", ("pair", "A", "B")), "A"),),
    "second": ((("second", ("pair", "A", "B")), "B"),),
    "only": ((("pick", ("one", "A"), ("num", 0)), "A"), (("flat", ("one", "A")), "A")),
    "empty": ((("join", ("none", "K"), "A"), "A"), (("join", "A", ("none", "K")), "A")),
    "self": ((("each", "x", "A", ("name", "x")), "A"),),
    "count": ((("long", ("each", "x", "A", "B")), ("long", "A"), ((), ())),),
    "ones": ((("flat", ("each", "x", "A", ("one", "B"))), ("each", "x", "A", "B"), ((0,), ())),),
    "never": ((("times", "x", ("num", 0), "B", "C"), "B"),),
    "picked": ((("pick", ("each", "x", "A", "B"), "C"), ("let", "x", ("pick", "A", "C"), "B"), ((), (0,))),),
    "joined": (
        (("each", "x", ("each", "y", "A", "B"), "C"), ("each", "y", "A", ("let", "x", "B", "C")), ((0,), ())),
    ),
    # Its rows are told by the sign of the tree at hand.
    "share": (),
}


def rule_names():
    """The names of all rules, sorted."""
    return sorted(RULES)


def rows_of(rule, tree):
    """The rows of a rule by which the tree may be put otherwise."""
    # The signs with two parts that bind nothing are just those that may share them.
    if rule == "share" and len(parts(tree)) == 2 and binding(tree) is None:
        after = ("let", "x", "A", (tree[0], ("name", "x"), ("name", "x")))
        return (((tree[0], "A", "B"), after, ((), (1,))),)
    return RULES[rule]


def may_stop(tree):
    """Whether a sign that may stop stands in the tree."""
    return tree[0] in STOPPING or any([may_stop(part) for part in parts(tree)])


def drop_fits(found, program, place):
    return not may_stop(found["A"]) and found["x"] not in free_names(found["B"])


def first_is_sure(found, program, place):
    return not may_stop(found["A"])


def second_is_sure(found, program, place):
    return not may_stop(found["B"])


def picked_fits(found, program, place):
    if may_stop(found["B"]) or found["x"] in free_names(found["C"]):
        return False
    # A thing of another kind might be wider to pick than what B makes of it.
    return dict(kinds_of(program))[place + (0, 0)] in (("row", ("num",)), ("row", ("truth",)))


def joined_fits(found, program, place):
    # Where x and y are alike, or y is bound in C, a name would be bound within itself: no program comes of it.
    return not (may_stop(found["B"]) and may_stop(found["C"]))


def share_fits(found, program, place):
    return found["A"] == found["B"] and has_step(found["A"])


CONDITIONS = {
    "drop": drop_fits, "alike": first_is_sure, "first": second_is_sure, "second": first_is_sure,
    "count": second_is_sure, "picked": picked_fits, "joined": joined_fits, "share": share_fits,
}


def has_step(tree):
    """Whether the tree has a piece that is neither a name nor a let."""
    return tree[0] not in ("name", "let") or any([has_step(part) for part in parts(tree)])


def complete(rule, found, tree, program):
    """Sets what those letters stand for that come of the others."""
    if rule == "alias":
        found["B"] = renamed(found["B"], found["x"], found["y"])
    if rule == "reckon":
        # No program comes of a number below 0, nor of None, where it is too great.
        found["k"] = done(tree, [found["n"], found["m"]])[0]
    if rule == "share":
        found["x"] = new_name(program)


def renamed(tree, name, other):
    """The tree with another name for each such one; nothing in it binds that, since it is bound around it."""
    if tree == ("name", name):
        return ("name", other)
    return with_parts(tree, [renamed(part, name, other) for part in parts(tree)])


def new_name(program):
    """The first name that stands nowhere in the program."""
    words = program_text(program).split(" ")
    told = list(LETTERS)
    for ahead in LETTERS:
        told.extend([ahead + letter for letter in LETTERS])
    return [one for one in told if is_name(one) and one not in words][0]


def recast(program, rule, place):
    """A tuple: the program put otherwise by any thing as a rule at any thing as a place, and the row by which it is;
    None where this can't be."""
    if not isinstance(rule, str) or rule not in RULES or not is_place(program[1], place):
        return None
    tree = part_at(program[1], place)
    for row in rows_of(rule, tree):
        found = matched(row[0], tree)
        if found is not None and (rule not in CONDITIONS or CONDITIONS[rule](found, program, place)):
            complete(rule, found, tree, program)
            other = (program[0], put_at(program[1], place, filled(row[1], found)))
            return (other, row) if is_program(other) else None
    return None


def is_place(tree, thing):
    """Whether any thing is a place of the tree."""
    if not are_numbers(thing):
        return False
    try:
        part_at(tree, thing)
    except NoPlace:
        return False
    return True


def moved(row, inner):
    """Where a place within the old tree goes within the one that a rule's row puts there, None where nowhere."""
    if len(row) == 3 and inner == row[2][0]:
        return row[2][1]
    places_now = dict(spots(row[1], ()))
    for letter, start in spots(row[0], ()):
        if inner[:len(start)] == start and letter in places_now:
            return places_now[letter] + inner[len(start):]
    return None


def first_recast(program):
    """The first tuple (rule, place, program) by which the program may be put otherwise, None where there is none."""
    for place in places(program[1]):
        for rule in rule_names():
            told = recast(program, rule, place)
            if told is not None:
                return (rule, place, told[0])
    return None
