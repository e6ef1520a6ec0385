"""What a single piece comes to by the worths of its parts, or the word with which it stops."""

from broadrow.stops import beyond_word, cut_word, empty_word, great_word, keep_word, long_word, nought_word
from broadrow.stops import sums_word, upto_word


def done(piece, ins):
    """A tuple (worth, word), of a piece that is no name, let, if, each or times; its own parts are not looked at."""
    word = WORDS[piece[0]](ins) if piece[0] in WORDS else None
    if word is not None:
        return (None, word)
    if piece[0] == "num":
        return (piece[1], None)
    return (DOINGS[piece[0]](ins), None)


def own_copy(worth):
    """The same worth, no list of which is one of its lists, or stands in it twice."""
    if isinstance(worth, list):
        return [own_copy(one) for one in worth]
    if isinstance(worth, tuple):
        return tuple([own_copy(one) for one in worth])
    return worth


def in_rows(lengths, things):
    """The things cut into rows of these lengths."""
    rows = []
    start = 0
    for length in lengths:
        rows.append(things[start:start + length])
        start = start + length
    return rows


def do_yes(ins):
    return True


def do_no(ins):
    return False


def do_none(ins):
    return []


def do_not(ins):
    return not ins[0]


def do_first(ins):
    return ins[0][0]


def do_second(ins):
    return ins[0][1]


def do_one(ins):
    return [ins[0]]


def do_upto(ins):
    return list(range(ins[0]))


def do_long(ins):
    return len(ins[0])


def do_sum(ins):
    return sum(ins[0])


def do_sums(ins):
    told = []
    total = 0
    for number in ins[0]:
        told.append(total)
        total = total + number
    return told


def do_most(ins):
    return max(ins[0])


def do_flat(ins):
    things = []
    for row in ins[0]:
        things.extend(row)
    return things


def do_add(ins):
    return ins[0] + ins[1]


def do_sub(ins):
    return ins[0] - ins[1]


def do_mul(ins):
    return ins[0] * ins[1]


def do_div(ins):
    return ins[0] // ins[1]


def do_rest(ins):
    return ins[0] % ins[1]


def do_less(ins):
    return ins[0] < ins[1]


def do_same(ins):
    return ins[0] == ins[1]


def do_both(ins):
    return ins[0] and ins[1]


def do_pair(ins):
    return (ins[0], ins[1])


def do_pick(ins):
    return ins[0][ins[1]]


def do_join(ins):
    return ins[0] + ins[1]


def do_keep(ins):
    return [thing for thing, truth in zip(ins[0], ins[1]) if truth]


def do_cut(ins):
    return in_rows(ins[1], ins[0])


DOINGS = {
    "yes": do_yes, "no": do_no, "none": do_none,
    "not": do_not, "first": do_first, "second": do_second, "one": do_one, "upto": do_upto,
    "long": do_long, "sum": do_sum, "sums": do_sums, "most": do_most, "flat": do_flat,
    "add": do_add, "sub": do_sub, "mul": do_mul, "div": do_div, "rest": do_rest,
    "less": do_less, "same": do_same, "both": do_both, "pair": do_pair,
    "pick": do_pick, "join": do_join, "keep": do_keep, "cut": do_cut,
}


def word_of_upto(ins):
    return upto_word(ins[0])


def word_of_sum(ins):
    return sums_word(ins[0])


def word_of_most(ins):
    return empty_word(len(ins[0]))


def word_of_flat(ins):
    return long_word(sum([len(row) for row in ins[0]]))


def word_of_add(ins):
    return great_word(ins[0] + ins[1])


def word_of_sub(ins):
    return great_word(ins[0] - ins[1])


def word_of_mul(ins):
    return great_word(ins[0] * ins[1])


def word_of_div(ins):
    return nought_word(ins[1])


def word_of_pick(ins):
    return beyond_word(len(ins[0]), ins[1])


def word_of_join(ins):
    return long_word(len(ins[0]) + len(ins[1]))


def word_of_keep(ins):
    return keep_word(len(ins[0]), len(ins[1]))


def word_of_cut(ins):
    return cut_word(len(ins[0]), ins[1])


# Of those signs alone that may stop; what they come to is asked for only where they don't.
WORDS = {
    "upto": word_of_upto, "sum": word_of_sum, "sums": word_of_sum, "most": word_of_most, "flat": word_of_flat,
    "add": word_of_add, "sub": word_of_sub, "mul": word_of_mul, "div": word_of_div, "rest": word_of_div,
    "pick": word_of_pick, "join": word_of_join, "keep": word_of_keep, "cut": word_of_cut,
}
