"""The desk: rows of words, answered with texts."""

from broadrow.chains import settled
from broadrow.errors import NoLine, NoText
from broadrow.hands import shown, shows, timetable
from broadrow.kinding import kinds_of
from broadrow.kinds import kind_text
from broadrow.ledgers import ledger
from broadrow.plain import read
from broadrow.programs import program_text, read_program
from broadrow.rules import fitting, put_otherwise
from broadrow.running import run
from broadrow.waits import waits
from broadrow.worths import take_worth, worth_text

MOST_HANDS = 20
MOST_FIGURES = 3


def number_of(word):
    """The number that a word of a row writes, None where it writes none."""
    if not 1 <= len(word) <= MOST_FIGURES or not all(["0" <= sign <= "9" for sign in word]):
        return None
    return None if len(word) > 1 and word[0] == "0" else int(word)


def hands_of(word):
    """How many hands a word of a row writes, None where it writes none that there may be."""
    number = number_of(word)
    return number if number is not None and 1 <= number <= MOST_HANDS else None


def place_of(word):
    """The place that a word of a row writes, None where it writes none."""
    if word == "-":
        return ()
    numbers = [number_of(one) for one in word.split(".")]
    return None if None in numbers else tuple(numbers)


def numbers_text(numbers):
    """The text of a place, or of turns."""
    return ".".join([str(number) for number in numbers]) if numbers else "-"


def worths_in(desk, words, at):
    """The worths for the heads that the words write from a number on, up to the end; NoText where they don't."""
    told = []
    for head in desk.program[0]:
        taken = take_worth(head[1], words, at)
        told.append(taken[0])
        at = taken[1]
    if at < len(words):
        raise NoText(at)
    return told


def outcome_text(told):
    """The text of what a reading or a run comes to."""
    if told[0] == "is":
        return "is " + worth_text(told[1])
    word = told[1]
    place = numbers_text(told[2])
    turns = numbers_text(told[3])
    return f"stops {word} at {place} in {turns}"


def answer_program(desk, words):
    program = read_program(" ".join(words[1:]))
    # Asked for its refusal alone.
    kinds_of(program)
    desk.program = program
    return "ok"


def answer_show(desk, words):
    return program_text(desk.program)


def answer_kind(desk, words):
    return kind_text(dict(kinds_of(desk.program))[()])


def answer_read(desk, words):
    return outcome_text(read(desk.program, worths_in(desk, words, 1)))


def answer_run(desk, words):
    return outcome_text(run(desk.program, worths_in(desk, words, 1)))


def answer_steps(desk, words):
    told = ledger(desk.program, worths_in(desk, words, 1))
    if told is None:
        return "stops"
    many = len(told)
    width = sum([step[3] for step in told])
    return f"steps {many} width {width}"


def answer_hands(desk, words):
    steps = waits(desk.program, worths_in(desk, words, 2))
    if steps is None:
        return "stops"
    hands = hands_of(words[1])
    beats = len(timetable(steps, hands))
    least = shows(steps, hands, shown(steps, hands))
    return f"beats {beats} least {least}"


def answer_rules(desk, words):
    told = [one[0] + " " + numbers_text(one[1]) for one in fitting(desk.program)]
    return ", ".join(told) if told else "-"


def answer_put(desk, words):
    desk.program = put_otherwise(desk.program, words[1], place_of(words[2]))
    return "ok"


def answer_settle(desk, words):
    chain = settled(desk.program)
    if chain:
        desk.program = chain[-1][2]
    return str(len(chain))


ANSWERS = {
    "program": answer_program, "show": answer_show, "kind": answer_kind, "read": answer_read, "run": answer_run,
    "steps": answer_steps, "hands": answer_hands, "rules": answer_rules, "put": answer_put, "settle": answer_settle,
}


def is_row(words):
    """Whether the words are a row that a desk answers, but for what its stages refuse."""
    if words[0] in ("show", "kind", "rules", "settle"):
        return len(words) == 1
    if words[0] == "hands":
        return len(words) > 1 and hands_of(words[1]) is not None
    if words[0] == "put":
        return len(words) == 3 and place_of(words[2]) is not None
    return words[0] in ANSWERS


class Desk:
    """Keeps a program, None at first, and answers rows."""

    def __init__(self):
        self.program = None

    def say(self, row):
        """The answer to a row; NoLine where it is none, or where a program is asked for and none is kept."""
        words = row.split(" ")
        if not is_row(words):
            raise NoLine(f"no such row: {row!r}")
        if self.program is None and words[0] != "program":
            raise NoLine(f"no program is kept: {row!r}")
        return ANSWERS[words[0]](self, words)
