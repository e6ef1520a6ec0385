import random
import re
import unittest

from broadrow.errors import NoText
from broadrow.programs import is_program, program_text, read_program
from broadrow.trees import is_name, places
from helper import (
    A, B, DEEP_KIND, GREAT, NUM, SIGNS_BY_FORM, TRUTH, Maker, chain, full_tree, name, num, odd_things,
    one_of_each_sign, pair, refusal, row, unchanged,
)

YES = ("yes",)
X = name("x")
SIX = tuple([(head, NUM) for head in "abcdef"])

WRITTEN = {
    "r row num n num : each x r add x n": (
        (("r", row(NUM)), ("n", NUM)), ("each", "x", name("r"), ("add", X, name("n")))),
    ": 5": ((), num(5)),
    ": 0": ((), num(0)),
    ": 1000000000000000000": ((), num(GREAT)),
    ": yes": ((), YES),
    ": no": ((), ("no",)),
    ": x": ((), X),
    ": none num": ((), ("none", NUM)),
    ": none row row row row num": ((), ("none", DEEP_KIND)),
    ": pair none pair num truth x": ((), ("pair", ("none", pair(NUM, TRUTH)), X)),
    "p pair num row truth : first p": ((("p", pair(NUM, row(TRUTH))),), ("first", name("p"))),
    ": let x 1 add x x": ((), ("let", "x", num(1), ("add", X, X))),
    ": if yes 1 2": ((), ("if", YES, num(1), num(2))),
    ": times x 3 1 mul x 2": ((), ("times", "x", num(3), num(1), ("mul", X, num(2)))),
    "a num b num c num d num e num f num : x": (SIX, X),
}

ARITIES = {sign: 1 for sign in SIGNS_BY_FORM["one"]}
ARITIES.update({sign: 2 for sign in SIGNS_BY_FORM["two"]})
ARITIES.update({"let": 2, "if": 3, "each": 2, "times": 3, "yes": 0, "no": 0})


class Bad(Exception):
    pass


class Loose:
    """Reads words as loosely as can be, ends what is not ended in the least way, and leaves it to is_program."""

    def __init__(self, words):
        self.words, self.at, self.fresh = words, 0, 0

    def take(self, least):
        self.at += 1
        return self.words[self.at - 1] if self.at <= len(self.words) else least

    def some_name(self):
        self.fresh += 1
        return "qqqqq" + "abcdefghijklmnopqrstuvwxyz"[self.fresh // 26] + "abcdefghijklmnopqrstuvwxyz"[self.fresh % 26]

    def kind(self):
        word = self.take("num")
        if word not in ("num", "truth", "row", "pair"):
            raise Bad
        return (word,) + tuple([self.kind() for _ in range({"row": 1, "pair": 2}.get(word, 0))])

    def tree(self):
        word = self.take("yes")
        if re.fullmatch("0|[1-9][0-9]*", word):
            return ("num", int(word))
        if word == "none":
            return ("none", self.kind())
        if word not in ARITIES:
            return ("name", word)
        bound = (self.take(self.some_name()),) if word in ("let", "each", "times") else ()
        return (word,) + bound + tuple([self.tree() for _ in range(ARITIES[word])])

    def program(self):
        heads = []
        word = self.take(":")
        while word != ":":
            heads.append((word, self.kind()))
            word = self.take(":")
        told = (tuple(heads), self.tree())
        if self.at < len(self.words):
            raise Bad
        return told


def may_go_on(words):
    try:
        return is_program(Loose(words).program())
    except Bad:
        return False


def first_wrong(words):
    """The number of the first word such that nothing that begins so is a program, or how many words there are."""
    at = 0
    while at < len(words) and may_go_on(words[:at + 1]):
        at += 1
    return at


class WhatIsAProgram(unittest.TestCase):
    def test_programs(self):
        for program in WRITTEN.values():
            self.assertIs(unchanged(is_program, program), True, program)
        for tree in one_of_each_sign():
            self.assertIs(is_program(((), tree)), True)

    def test_heads(self):
        self.assertIs(is_program(((), X)), True)
        self.assertIs(is_program((SIX[:1], X)), True)
        self.assertIs(is_program((SIX, X)), True)
        self.assertIs(is_program((SIX + (("g", NUM),), X)), False)
        self.assertIs(is_program(((("a", NUM), ("b", NUM), ("a", TRUTH)), X)), False)
        self.assertIs(is_program(((("a", NUM), ("a", NUM)), X)), False)
        self.assertIs(is_program(((("a", DEEP_KIND),), X)), True)
        for head in [
            ("a", row(DEEP_KIND)), ("a", "num"), ("a", ["num"]), ("a", None), ("a",), ("a", NUM, NUM), ["a", NUM], "a", None,
            ("num", NUM), ("abcdefghi", NUM), ("", NUM), ("row", NUM), (["a"], NUM), (None, NUM), (1, NUM), ("A", NUM),
        ]:
            self.assertIs(is_program(((head,), X)), False, head)
            self.assertIs(is_program(((("b", NUM), head), X)), False, head)
        for heads in ([], [("a", NUM)], None, "a", ("a", NUM), True, 0):
            self.assertIs(is_program((heads, X)), False, heads)

    def test_other_things(self):
        for thing in odd_things():
            self.assertIs(unchanged(is_program, thing), False, repr(thing)[:80])
            self.assertIs(is_program(((), thing)), False)
            self.assertIs(is_program((thing, X)), thing == () and isinstance(thing, tuple))
        for thing in ([(), X], ((), X, X), ((),), (X, ()), ((), [X]), ((), (X,)), ((), ("name", "num"))):
            self.assertIs(is_program(thing), False)

    def test_pieces_of_200_and_201(self):
        full = full_tree(100)
        self.assertEqual(len(places(full)), 199)
        self.assertIs(is_program(((), ("not", full))), True)
        self.assertIs(is_program(((), ("add", full, X))), False)
        self.assertIs(is_program(((), ("not", ("not", full)))), False)
        self.assertIs(is_program(((), full_tree(3000))), False)

    def test_twenty_and_twenty_one_within_one_another(self):
        self.assertIs(is_program(((), chain(20))), True)
        self.assertIs(is_program(((), chain(21))), False)
        self.assertIs(is_program(((), chain(50))), False)
        self.assertIs(is_program(((), ("add", X, chain(19)))), True)
        self.assertIs(is_program(((), ("add", X, chain(20)))), False)
        self.assertIs(is_program(((), ("if", chain(20), X, X))), False)

    def test_what_is_bound(self):
        inner = [("let", "x", A, B), ("each", "x", A, B), ("times", "x", A, B, B)]
        for tree in inner:
            self.assertIs(is_program(((("y", NUM),), tree)), True)
            self.assertIs(is_program(((("x", NUM),), tree)), False)
            self.assertIs(is_program(((("x", NUM),), ("not", ("add", X, tree)))), False)
            for outer, allowed in [
                (("let", "x", tree, B), True), (("let", "x", A, tree), False), (("each", "x", tree, B), True),
                (("each", "x", A, tree), False), (("times", "x", tree, A, B), True), (("times", "x", A, tree, B), True),
                (("times", "x", A, B, tree), False), (("add", tree, tree), True), (("let", "y", A, tree), True),
                (("let", "x", A, ("let", "y", A, ("not", tree))), False), (("let", "x", ("let", "y", tree, tree), A), True),
                (("let", "x", ("let", "x", tree, B), B), True), (("let", "x", ("let", "x", B, tree), B), False),
            ]:
                self.assertIs(is_program(((), outer)), allowed, outer)


class HowAProgramIsWritten(unittest.TestCase):
    def test_texts(self):
        for text, program in WRITTEN.items():
            self.assertEqual(unchanged(program_text, program), text)
            self.assertEqual(read_program(text), program)

    def test_each_sign(self):
        for tree in one_of_each_sign():
            text = program_text(((), tree))
            wanted = {"num": "7", "name": "x", "none": "none row num", "let": "let x a b", "each": "each x a b",
                      "times": "times x a b c", "if": "if a b c"}
            letters = " ".join([tree[0]] + [part[1] for part in tree[1:]]) if tree[0] not in wanted else wanted[tree[0]]
            self.assertEqual(text, ": " + letters)
            self.assertEqual(read_program(text), ((), tree))

    def test_what_is_written_is_read_again(self):
        maker = Maker(8)
        for _ in range(300):
            program, _ = maker.program(6)
            self.assertIs(is_program(program), True)
            self.assertEqual(read_program(unchanged(program_text, program)), program)
            self.assertEqual(program_text(program), program_text(program))

    def test_a_name_may_be_bound_again_in_another_part(self):
        for text in (": let x let x 1 x x", ": each x each x r x x", ": times x times x 1 2 x let x 1 x x", ": add let x 1 x let x 2 x"):
            self.assertEqual(program_text(read_program(text)), text)

    def test_refused_at_the_first_word_that_cannot_stand(self):
        for text, at in [
            ("", 0), (" ", 0), (":", 1), (": ", 1), (" : 5", 0), (":  5", 1), (": 5 ", 2), (": 5 6", 2), (": 5\n", 1), (": 5\t", 1),
            (": x\n", 1), (": yes \t", 2), ("5", 0), ("yes", 0), ("x", 1), ("x num", 2), ("x num 5", 2), ("x num num : 5", 2),
            ("x nun : 5", 1), ("x : 5", 1), ("num : 5", 0), ("row num : 5", 0), ("x num x num : 5", 2), ("x num y truth x num : 5", 4),
            ("a num b num c num d num e num f num g num : 5", 12), ("a num b num c num d num e num f num", 12),
            ("a num b num c num d num e num f num 5", 12), ("x row row row row row num : 5", 5), ("x row : 5", 2),
            ("x row row row row num : 5 6", 8), ("X num : 5", 0), ("abcdefghi num : 5", 0),
            (": : 5", 1), (": add : 1 2", 2), (": 5 :", 2), (": add 1 :", 3), ("x num : : x", 3), ("x num : x :", 4),
            (": add", 2), (": add 1", 3), (": add 1 2 3", 4), (": add add 1 2", 5), (": 1 add 2", 2), (": 1 2 add", 2), (": add  1 2", 2),
            (": -1", 1), (": -0", 1), (": 07", 1), (": +1", 1), (": 00", 1), (": 1.0", 1), (": 1_0", 1), (": 1e3", 1),
            (": 1000000000000000001", 1), (": " + "9" * 60, 1), (": add 1 -1", 3), (": add 007 1", 2),
            (": num", 1), (": num 5", 1), (": name", 1), (": name x", 1), (": truth", 1), (": row", 1), (": none", 2), (": none 5", 2),
            (": none row", 3), (": none row num num", 4), (": none row row row row row num", 6), (": none x", 2), (": nun:", 1),
            (": X", 1), (": abcdefghi", 1), (": abcdefgh", None), (": [", 1), (": Yes", 1), (": not", 2), (": not not", 3),
            (": let", 2), (": let 5 1 2", 2), (": let x", 3), (": let x 1", 4), (": let x 1 x x", 5), (": let add 1 2 x", 2), (": let row 1 2", 2),
            ("x num : let x 1 x", 4), ("x num : each x r x", 4), ("x num : times x 1 2 x", 4), ("x num : add 1 let x 1 x", 6),
            (": let x 1 let x 2 x", 5), (": each x r each x r x", 5), (": times x 1 2 times x 1 2 x", 6), (": each x r let x 2 x", 5),
            (": let x let x let x 1 x x x", None), (": let x let x 1 let x 2 x x", 7), (": times x let x 1 x let x 1 x let x 1 x", 12),
            (": if yes 1", 4), (": if yes 1 2 3", 5), (": times x 1 2", 5), (": each x r", 4), (": yes no", 2),
        ]:
            words = text.split(" ")
            if at is None:
                self.assertIs(is_program(read_program(text)), True)
            else:
                self.assertEqual(refusal(NoText, read_program, text).at, at, repr(text))
                self.assertEqual(first_wrong(words), at, repr(text))

    def test_a_piece_too_many(self):
        full = program_text(((), ("not", full_tree(100)))).split(" ")
        self.assertEqual(read_program(" ".join(full)), ((), ("not", full_tree(100))))
        leaves = [at for at, word in enumerate(full) if word == "1"]
        for at in (leaves[0], leaves[1], leaves[50], leaves[-1]):
            more = full[:at] + ["not", "1"] + full[at + 1:]
            pieces = [number for number, word in enumerate(more) if word in ("not", "add")]
            self.assertEqual(refusal(NoText, read_program, " ".join(more)).at, pieces[-1])
        wide = program_text(((), full_tree(101))).split(" ")
        last = max(at for at, word in enumerate(wide) if word == "add")
        self.assertEqual(refusal(NoText, read_program, " ".join(wide)).at, last)
        self.assertEqual(refusal(NoText, read_program, " ".join(wide[:last])).at, last)

    def test_a_sign_whose_parts_cannot_all_stand(self):
        words = program_text(((), ("not", full_tree(99)))).split(" ")
        self.assertEqual(words[-1], "1")
        for sign, room in [("let", True), ("if", False), ("each", True), ("times", False), ("add", True), ("not", True)]:
            more = words[:-1] + [sign]
            wanted = len(more) if room else len(more) - 1
            self.assertEqual(refusal(NoText, read_program, " ".join(more)).at, wanted, sign)
            self.assertEqual(first_wrong(more), wanted, sign)

    def test_a_piece_too_deep(self):
        self.assertEqual(read_program(": " + "not " * 19 + "yes"), ((), chain(20)))
        self.assertEqual(refusal(NoText, read_program, ": " + "not " * 20 + "yes").at, 20)
        self.assertEqual(refusal(NoText, read_program, ": " + "not " * 20 + "?").at, 20)
        self.assertEqual(refusal(NoText, read_program, ": " + "not " * 19 + "?").at, 20)
        self.assertEqual(refusal(NoText, read_program, (": " + "not " * 19)[:-1]).at, 20)
        for leaf in ("5", "x", "no", "none row num"):
            self.assertIs(is_program(read_program(": " + "not " * 19 + leaf)), True)
        for sign in ("add 1 2", "let x 1 2", "if yes 1 2", "times x 1 2 3", "each x 1 2"):
            self.assertEqual(refusal(NoText, read_program, ": " + "not " * 19 + sign).at, 20)
            self.assertIs(is_program(read_program(": " + "not " * 18 + sign)), True)

    def test_cut_off(self):
        for text in WRITTEN:
            words = text.split(" ")
            for many in range(1, len(words)):
                self.assertEqual(refusal(NoText, read_program, " ".join(words[:many])).at, many)

    def test_words_left_out_put_in_put_twice_and_exchanged(self):
        chance = random.Random(9)
        maker = Maker(10)
        others = "x r : 5 0 -1 07 yes none num row pair add not let each times if upto ? [".split(" ") + [""]
        for _ in range(300):
            words = program_text(maker.program(5)[0]).split(" ")
            at, other = chance.randrange(len(words)), chance.randrange(len(words))
            word = chance.choice(others)
            swapped = list(words)
            swapped[at], swapped[other] = words[other], words[at]
            for some in (
                words[:at] + words[at + 1:], words[:at] + [word] + words[at:], words[:at] + [words[at]] + words[at:],
                words[:at] + [word] + words[at + 1:], swapped, words[:at], words + [word],
            ):
                self.check(" ".join(some).split(" "))

    def check(self, words):
        wanted = first_wrong(words)
        try:
            told = read_program(" ".join(words))
        except NoText as error:
            self.assertEqual(error.at, wanted, words)
        else:
            self.assertEqual(wanted, len(words))
            self.assertIs(is_program(told), True)
            self.assertEqual(program_text(told), " ".join(words))

    def test_names_of_all_sorts(self):
        for word in ("a", "abcdefgh", "abcdefghi", "num", "nums", "row", "rows", "truth", "is", "A", "a1", "name", "names"):
            if is_name(word):
                self.assertEqual(read_program(word + " num : " + word), (((word, NUM),), ("name", word)))
                self.assertEqual(read_program(": let " + word + " 1 " + word)[1][1], word)
            else:
                self.assertEqual(refusal(NoText, read_program, word + " num : 1").at, 0)
                self.assertEqual(refusal(NoText, read_program, ": let " + word + " 1 2").at, 2)


if __name__ == "__main__":
    unittest.main()
