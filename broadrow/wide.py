"""Wide steps: a piece done for many things at once."""

from broadrow.flats import flat_of, many_in, parted, worths_of
from broadrow.single import done
from broadrow.stops import beyond_word, cut_word, keep_word, long_word
from broadrow.taking import first_ones, kept, merged, taken

# The signs whose parts are numbers, truths and rows of numbers alone, each with the kind that it comes to.
RECKONED = {
    "not": ("truth",), "upto": ("row", ("num",)), "sum": ("num",), "sums": ("row", ("num",)), "most": ("num",),
    "add": ("num",), "sub": ("num",), "mul": ("num",), "div": ("num",), "rest": ("num",),
    "less": ("truth",), "same": ("truth",), "both": ("truth",),
}


def wide_step(piece, kinds, flats, many):
    """A tuple (flat, many, word): what the piece comes to for so many things, or for those ahead of its first stop."""
    if piece[0] in RECKONED:
        return reckoned(piece, kinds, flats, many)
    stop = first_stop(piece[0], flats, many)
    # What is told may hold these lists themselves: none of them is one that was handed in.
    ahead = [first_ones(kind, flat, stop[0]) for kind, flat in zip(kinds, flats)]
    return (laid_anew(piece, kinds, ahead, stop[0]), stop[0], stop[1])


def reckoned(piece, kinds, flats, many):
    """A wide step of one of those signs."""
    # Thing by thing, since all that is looked at counts in the width: nothing is spared by staying flat.
    columns = [worths_of(kind, flat, many) for kind, flat in zip(kinds, flats)]
    worths = []
    word = None
    for number in range(many):
        told = done(piece, [column[number] for column in columns])
        word = told[1]
        if word is not None:
            break
        worths.append(told[0])
    return (flat_of(RECKONED[piece[0]], worths), len(worths), word)


def first_stop(sign, flats, many):
    """The number of the first thing for which one of the other signs stops, and its word; else many and None."""
    if sign in WORDS:
        for number, word in enumerate(WORDS[sign](flats)):
            if word is not None:
                return (number, word)
    return (many, None)


def flat_words(flats):
    return [long_word(sum(lengths)) for lengths in parted(flats[0][0], flats[0][1][0])]


def pick_words(flats):
    return [beyond_word(length, number) for length, number in zip(flats[0][0], flats[1])]


def join_words(flats):
    return [long_word(one + other) for one, other in zip(flats[0][0], flats[1][0])]


def keep_words(flats):
    return [keep_word(one, other) for one, other in zip(flats[0][0], flats[1][0])]


def cut_words(flats):
    return [cut_word(length, lengths) for length, lengths in zip(flats[0][0], parted(flats[1][0], flats[1][1]))]


# The words, None among them, with which those of the other signs that may stop do so, one for each thing.
WORDS = {"flat": flat_words, "pick": pick_words, "join": join_words, "keep": keep_words, "cut": cut_words}


def laid_anew(piece, kinds, flats, many):
    """What one of the other signs comes to, where it stops for no thing."""
    if piece[0] == "num":
        return [piece[1]] * many
    if piece[0] in ("yes", "no"):
        return [piece[0] == "yes"] * many
    if piece[0] == "none":
        return ([0] * many, flat_of(piece[1], []))
    return DOINGS[piece[0]](kinds, flats)


def wide_first(kinds, flats):
    return flats[0][0]


def wide_second(kinds, flats):
    return flats[0][1]


def wide_one(kinds, flats):
    return ([1] * many_in(kinds[0], flats[0]), flats[0])


def wide_long(kinds, flats):
    return flats[0][0]


def wide_flat(kinds, flats):
    inner = flats[0][1]
    return ([sum(lengths) for lengths in parted(flats[0][0], inner[0])], inner[1])


def wide_pair(kinds, flats):
    return (flats[0], flats[1])


def wide_pick(kinds, flats):
    numbers = []
    start = 0
    for length, number in zip(flats[0][0], flats[1]):
        numbers.append(start + number)
        start = start + length
    return taken(kinds[0][1], flats[0][1], numbers)


def wide_join(kinds, flats):
    truths = []
    for one, other in zip(flats[0][0], flats[1][0]):
        truths.extend([True] * one + [False] * other)
    lengths = [one + other for one, other in zip(flats[0][0], flats[1][0])]
    return (lengths, merged(kinds[0][1], truths, flats[0][1], flats[1][1]))


def wide_keep(kinds, flats):
    lengths = [truths.count(True) for truths in parted(flats[1][0], flats[1][1])]
    return (lengths, kept(kinds[0][1], flats[0][1], flats[1][1]))


def wide_cut(kinds, flats):
    return (flats[1][0], (flats[1][1], flats[0][1]))


DOINGS = {
    "first": wide_first, "second": wide_second, "one": wide_one, "long": wide_long, "flat": wide_flat,
    "pair": wide_pair, "pick": wide_pick, "join": wide_join, "keep": wide_keep, "cut": wide_cut,
}
