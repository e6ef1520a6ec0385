"""What a single piece comes to by the worths of its parts: a tuple (worth, word), word None where it doesn't stop."""

GREATEST = 1000000000000000000
LONGEST = 200
MOST_TURNS = 60


def done(piece, ins):
    """What a piece that is no name, let, if, each or times comes to; its own parts are not looked at."""
    if piece[0] == "num":
        return (piece[1], None)
    return DOINGS[piece[0]](ins)


def own_copy(worth):
    """The same worth, no list of which is one of its lists, or stands in it twice."""
    if isinstance(worth, list):
        return [own_copy(one) for one in worth]
    if isinstance(worth, tuple):
        return tuple([own_copy(one) for one in worth])
    return worth


def turns_word(many):
    """The word with which a times of so many turns stops, None where it goes on."""
    return None if 0 <= many <= MOST_TURNS else "far"


def is_small(number):
    """Whether the number is not too great, either way."""
    return -GREATEST <= number <= GREATEST


def bounded(number):
    """The number, unless it is too great."""
    return (number, None) if is_small(number) else (None, "great")


def short(row):
    """The row, unless it is too long."""
    return (row, None) if len(row) <= LONGEST else (None, "far")


def do_yes(ins):
    return (True, None)


def do_no(ins):
    return (False, None)


def do_none(ins):
    return ([], None)


def do_not(ins):
    return (not ins[0], None)


def do_first(ins):
    return (ins[0][0], None)


def do_second(ins):
    return (ins[0][1], None)


def do_one(ins):
    return ([ins[0]], None)


def do_upto(ins):
    if not 0 <= ins[0] <= LONGEST:
        return (None, "far")
    return (list(range(ins[0])), None)


def do_long(ins):
    return (len(ins[0]), None)


def beginnings(row):
    """The sums of all the row's beginnings, from that of no things to that of all."""
    told = [0]
    for number in row:
        told.append(told[-1] + number)
    return told


def do_sum(ins):
    told = beginnings(ins[0])
    if not all([is_small(number) for number in told]):
        return (None, "great")
    return (told[-1], None)


def do_sums(ins):
    told = beginnings(ins[0])
    # The whole row's sum stands nowhere in what is told, and still it may not be too great.
    if not all([is_small(number) for number in told]):
        return (None, "great")
    return (told[:-1], None)


def do_most(ins):
    if len(ins[0]) == 0:
        return (None, "empty")
    return (max(ins[0]), None)


def do_flat(ins):
    things = []
    for row in ins[0]:
        things.extend(row)
    return short(things)


def do_add(ins):
    return bounded(ins[0] + ins[1])


def do_sub(ins):
    return bounded(ins[0] - ins[1])


def do_mul(ins):
    return bounded(ins[0] * ins[1])


def do_div(ins):
    if ins[1] == 0:
        return (None, "nought")
    return (ins[0] // ins[1], None)


def do_rest(ins):
    if ins[1] == 0:
        return (None, "nought")
    return (ins[0] % ins[1], None)


def do_less(ins):
    return (ins[0] < ins[1], None)


def do_same(ins):
    return (ins[0] == ins[1], None)


def do_both(ins):
    return (ins[0] and ins[1], None)


def do_pair(ins):
    return ((ins[0], ins[1]), None)


def do_pick(ins):
    # A number below 0 would count from the end.
    if not 0 <= ins[1] < len(ins[0]):
        return (None, "beyond")
    return (ins[0][ins[1]], None)


def do_join(ins):
    return short(ins[0] + ins[1])


def do_keep(ins):
    if len(ins[0]) != len(ins[1]):
        return (None, "unlike")
    return ([thing for thing, truth in zip(ins[0], ins[1]) if truth], None)


def do_cut(ins):
    if any([length < 0 for length in ins[1]]) or sum(ins[1]) != len(ins[0]):
        return (None, "unlike")
    rows = []
    start = 0
    for length in ins[1]:
        rows.append(ins[0][start:start + length])
        start = start + length
    return (rows, None)


DOINGS = {
    "yes": do_yes, "no": do_no, "none": do_none,
    "not": do_not, "first": do_first, "second": do_second, "one": do_one, "upto": do_upto,
    "long": do_long, "sum": do_sum, "sums": do_sums, "most": do_most, "flat": do_flat,
    "add": do_add, "sub": do_sub, "mul": do_mul, "div": do_div, "rest": do_rest,
    "less": do_less, "same": do_same, "both": do_both, "pair": do_pair,
    "pick": do_pick, "join": do_join, "keep": do_keep, "cut": do_cut,
}
