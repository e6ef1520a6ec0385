"""What stops a piece: each word by as little as tells it (None where nothing stops), and what ends a reading."""

GREATEST = 1000000000000000000
LONGEST = 200
MOST_TURNS = 60


class Stop(Exception):
    """What ends a reading ahead of its worth: a word at a place, in some turns."""

    def __init__(self, word, place, turns):
        Exception.__init__(self, word)
        self.word = word
        self.place = place
        self.turns = turns


def great_word(number):
    """Of add, sub, mul that come to a number."""
    return None if -GREATEST <= number <= GREATEST else "great"


def sums_word(row):
    """Of sum and sums of a row: each of its beginnings counts, the whole row too."""
    total = 0
    for number in row:
        total = total + number
        if great_word(total) is not None:
            return "great"
    return None


def nought_word(number):
    """Of div and rest by a number."""
    return "nought" if number == 0 else None


def beyond_word(length, number):
    """Of pick by a number, of a row of such a length."""
    # A number below 0 would count from the end.
    return None if 0 <= number < length else "beyond"


def empty_word(length):
    """Of most of a row of such a length."""
    return "empty" if length == 0 else None


def upto_word(number):
    """Of upto by a number."""
    return None if 0 <= number <= LONGEST else "far"


def turns_word(number):
    """Of times by a number."""
    return None if 0 <= number <= MOST_TURNS else "far"


def long_word(length):
    """Of join and flat that come to a row of such a length."""
    return None if length <= LONGEST else "far"


def keep_word(length, other):
    """Of keep of rows of such lengths."""
    return None if length == other else "unlike"


def cut_word(length, lengths):
    """Of cut of a row of such a length into rows of these lengths."""
    if any([one < 0 for one in lengths]) or sum(lengths) != length:
        return "unlike"
    return None
