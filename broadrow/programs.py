"""Programs: what they are, and how they are written."""

from broadrow.errors import NoText
from broadrow.kinds import is_kind, kind_text, take_kind
from broadrow.trees import binding, is_name, is_tree, parts, places, with_parts
from broadrow.worths import take_worth, worth_text

MOST_HEADS = 6
MOST_PIECES = 200
DEEPEST = 20

# What may stand behind a sign that is written by itself, each part a mere yes: so trees alone tell a sign's form.
BLANKS = (
    (),
    (("yes",),),
    (("yes",), ("yes",)),
    (("yes",), ("yes",), ("yes",)),
    ("x", ("yes",), ("yes",)),
    ("x", ("yes",), ("yes",), ("yes",)),
)


def is_program(thing):
    """Whether any thing is a program."""
    if not isinstance(thing, tuple) or len(thing) != 2:
        return False
    if not are_heads(thing[0]) or not is_tree(thing[1]):
        return False
    told = places(thing[1])
    if len(told) > MOST_PIECES or max([len(place) for place in told]) >= DEEPEST:
        return False
    return binds_well(thing[1], names_of(thing[0]))


def are_heads(thing):
    """Whether any thing is the heads of a program."""
    if not isinstance(thing, tuple) or len(thing) > MOST_HEADS:
        return False
    if not all([is_head(one) for one in thing]):
        return False
    return len(set(names_of(thing))) == len(thing)


def is_head(thing):
    """Whether any thing is a name and its kind."""
    if not isinstance(thing, tuple) or len(thing) != 2:
        return False
    return is_name(thing[0]) and is_kind(thing[1])


def names_of(heads):
    """The names of the heads, a tuple."""
    return tuple([head[0] for head in heads])


def binds_well(tree, bound):
    """Whether the tree binds none of the bound names, nor one that it binds already where it does so."""
    where = binding(tree)
    if where is not None and tree[1] in bound:
        return False
    for number, part in enumerate(parts(tree)):
        if not binds_well(part, bound + (tree[1],) if number == where else bound):
            return False
    return True


def program_text(program):
    """The words of a program."""
    words = []
    for name, kind in program[0]:
        words.append(name)
        words.append(kind_text(kind))
    words.append(":")
    words.append(tree_text(program[1]))
    return " ".join(words)


def tree_text(tree):
    """The words of a tree."""
    if tree[0] == "num":
        return worth_text(tree[1])
    if tree[0] == "name":
        return tree[1]
    if tree[0] == "none":
        return "none " + kind_text(tree[1])
    words = [tree[0]] if binding(tree) is None else [tree[0], tree[1]]
    return " ".join(words + [tree_text(part) for part in parts(tree)])


class Walk:
    """Words, the number of the one that is next, and how many pieces the tree may have beyond those due by now."""

    def __init__(self, words):
        self.words = words
        self.at = 0
        # The whole is due from the beginning.
        self.spare = MOST_PIECES - 1

    def seen(self):
        """The word that is next, None behind the last one."""
        return self.words[self.at] if self.at < len(self.words) else None

    def go_on(self):
        """Goes behind the next word."""
        self.at = self.at + 1


def read_program(text):
    """The program that a text writes; NoText where it writes none."""
    walk = Walk(text.split(" "))
    heads = walk_heads(walk)
    tree = walk_tree(walk, names_of(heads), 1)
    if walk.seen() is not None:
        raise NoText(walk.at)
    return (heads, tree)


def walk_heads(walk):
    """The heads that are written next, and behind them the colon."""
    heads = []
    while walk.seen() != ":":
        if len(heads) == MOST_HEADS:
            raise NoText(walk.at)
        name = walk_name(walk, names_of(heads))
        heads.append((name, walk_kind(walk)))
    walk.go_on()
    return tuple(heads)


def walk_name(walk, bound):
    """The name that is written next, none of the bound ones."""
    name = walk.seen()
    if not is_name(name) or name in bound:
        raise NoText(walk.at)
    walk.go_on()
    return name


def walk_kind(walk):
    """The kind that is written next."""
    taken = take_kind(walk.words, walk.at)
    walk.at = taken[1]
    return taken[0]


def walk_tree(walk, bound, depth):
    """The tree that is written next, with so many trees around it as depth says, itself among them."""
    blank = blank_of(walk.seen())
    if blank is None:
        raise NoText(walk.at)
    due = len(parts(blank))
    # Each part that is due comes to a piece at least: a sign with too many of them can't be ended.
    if due > walk.spare or (due > 0 and depth == DEEPEST):
        raise NoText(walk.at)
    walk.spare = walk.spare - due
    walk.go_on()
    if blank[0] == "none":
        return ("none", walk_kind(walk))
    if binding(blank) is not None:
        blank = (blank[0], walk_name(walk, bound)) + parts(blank)
    return with_parts(blank, walk_parts(walk, blank, bound, depth))


def walk_parts(walk, blank, bound, depth):
    """The parts of a piece that are written next, a list."""
    some = []
    for number in range(len(parts(blank))):
        inner = bound + (blank[1],) if number == binding(blank) else bound
        some.append(walk_tree(walk, inner, depth + 1))
    return some


def blank_of(word):
    """The piece that a word begins, with some name, kind and parts for those that follow; None where it begins none."""
    if word is None:
        return None
    if is_name(word):
        return ("name", word)
    if word == "none":
        return ("none", ("num",))
    for fields in BLANKS:
        if is_tree((word,) + fields):
            return (word,) + fields
    return number_piece(word)


def number_piece(word):
    """The piece of a number, None where the word writes none from 0 on."""
    try:
        taken = take_worth(("num",), [word], 0)
    except NoText:
        return None
    return ("num", taken[0]) if taken[0] >= 0 else None
