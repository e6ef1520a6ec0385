"""Worths: what they are of a kind, how they are written, how great they are."""

from broadrow.errors import NoText

GREATEST = 1000000000000000000
LONGEST = 200


def is_worth(kind, thing):
    """Whether any thing is a worth of the kind."""
    if kind[0] == "num":
        return is_number(thing)
    if kind[0] == "truth":
        return isinstance(thing, bool)
    if kind[0] == "pair":
        return is_pair(kind, thing)
    return is_row(kind, thing)


def is_number(thing):
    """Whether it is a whole number within the bounds."""
    if not isinstance(thing, int) or isinstance(thing, bool):
        return False
    return -GREATEST <= thing <= GREATEST


def is_pair(kind, thing):
    """Whether it is a tuple of two worths of the pair's kinds."""
    if not isinstance(thing, tuple) or len(thing) != 2:
        return False
    return is_worth(kind[1], thing[0]) and is_worth(kind[2], thing[1])


def is_row(kind, thing):
    """Whether it is a list, not too long, of worths of the row's kind."""
    if not isinstance(thing, list) or len(thing) > LONGEST:
        return False
    return all([is_worth(kind[1], one) for one in thing])


def worth_text(worth):
    """The words of a worth."""
    # A truth is an int to Python: it is asked for first.
    if isinstance(worth, bool):
        return "yes" if worth else "no"
    if isinstance(worth, int):
        return str(worth)
    texts = [worth_text(one) for one in worth]
    if isinstance(worth, tuple):
        return " ".join(texts)
    return " ".join(["["] + texts + ["]"])


def read_worth(kind, text):
    """The worth of the kind that a text writes; NoText where it writes none."""
    words = text.split(" ")
    taken = take_worth(kind, words, 0)
    if taken[1] < len(words):
        raise NoText(taken[1])
    return taken[0]


def take_worth(kind, words, at):
    """The worth that the words write from the one numbered at on, and the number of the word behind it."""
    if kind[0] == "pair":
        return take_pair(kind, words, at)
    if kind[0] == "row":
        return take_row(kind, words, at)
    if at >= len(words):
        raise NoText(at)
    worth = number_of(words[at]) if kind[0] == "num" else truth_of(words[at])
    if worth is None:
        raise NoText(at)
    return (worth, at + 1)


def number_of(word):
    """The number that a word writes, None where it writes none."""
    try:
        number = int(word)
    except ValueError:
        return None
    # Python takes more ways of writing a number than the one that is allowed.
    if str(number) != word or not is_number(number):
        return None
    return number


def truth_of(word):
    """The truth that a word writes, None where it writes none."""
    if word == "yes":
        return True
    if word == "no":
        return False
    return None


def take_pair(kind, words, at):
    """As take_worth, of a pair."""
    first = take_worth(kind[1], words, at)
    second = take_worth(kind[2], words, first[1])
    return ((first[0], second[0]), second[1])


def take_row(kind, words, at):
    """As take_worth, of a row."""
    if not stands_at(words, at, "["):
        raise NoText(at)
    things = []
    after = at + 1
    while not stands_at(words, after, "]"):
        if len(things) == LONGEST:
            raise NoText(after)
        taken = take_worth(kind[1], words, after)
        things.append(taken[0])
        after = taken[1]
    return (things, after + 1)


def stands_at(words, at, word):
    """Whether the word numbered at is there and is this one."""
    return at < len(words) and words[at] == word


def size(worth):
    """The size of a worth."""
    if isinstance(worth, int):
        return 1
    within = sum([size(one) for one in worth])
    return within if isinstance(worth, tuple) else 1 + within
