"""Kinds: what they are, and how they are written."""

from broadrow.errors import NoText

DEEPEST = 5

# How many kinds stand behind each word.
WITHIN = {"num": 0, "truth": 0, "pair": 2, "row": 1}


def is_kind(thing):
    """Whether any thing is a kind."""
    return is_kind_within(thing, DEEPEST)


def is_kind_within(thing, depth):
    """Whether it is a kind of at most so many words within one another."""
    if depth == 0 or not isinstance(thing, tuple) or len(thing) == 0:
        return False
    # Only a text may be looked up: a list would not be refused but fail.
    if not isinstance(thing[0], str) or thing[0] not in WITHIN:
        return False
    if len(thing) != 1 + WITHIN[thing[0]]:
        return False
    return all([is_kind_within(part, depth - 1) for part in thing[1:]])


def kind_text(kind):
    """The words of a kind."""
    return " ".join([kind[0]] + [kind_text(part) for part in kind[1:]])


def read_kind(text):
    """The kind that a text writes; NoText where it writes none."""
    words = text.split(" ")
    taken = take_kind(words, 0)
    if taken[1] < len(words):
        raise NoText(taken[1])
    return taken[0]


def take_kind(words, at):
    """The kind that the words write from the one numbered at on, and the number of the word behind it."""
    return take_kind_within(words, at, DEEPEST)


def take_kind_within(words, at, depth):
    """As take_kind, of a kind of at most so many words within one another."""
    if at >= len(words) or words[at] not in WITHIN:
        raise NoText(at)
    many = WITHIN[words[at]]
    # A word that asks for kinds behind it can't be the deepest one.
    if many > 0 and depth == 1:
        raise NoText(at)
    kind = [words[at]]
    after = at + 1
    for number in range(many):
        taken = take_kind_within(words, after, depth - 1)
        kind.append(taken[0])
        after = taken[1]
    return (tuple(kind), after)
