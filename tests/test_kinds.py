import unittest

from broadrow.errors import NoText
from broadrow.kinds import is_kind, kind_text, read_kind, take_kind
from helper import DEEP_KIND, NUM, TRUTH, Maker, odd_things, pair, refusal, row, unchanged

WRITTEN = {
    "num": NUM,
    "truth": TRUTH,
    "row num": row(NUM),
    "pair num truth": pair(NUM, TRUTH),
    "pair row truth num": pair(row(TRUTH), NUM),
    "row pair num row truth": row(pair(NUM, row(TRUTH))),
    "pair pair num truth pair truth num": pair(pair(NUM, TRUTH), pair(TRUTH, NUM)),
    "row row row row num": DEEP_KIND,
    "pair num row row row truth": pair(NUM, row(row(row(TRUTH)))),
}


def full_kind(depth):
    return NUM if depth == 1 else pair(full_kind(depth - 1), full_kind(depth - 1))


class WhatIsAKind(unittest.TestCase):
    def test_kinds(self):
        for kind in WRITTEN.values():
            self.assertIs(unchanged(is_kind, kind), True)

    def test_at_most_five_words_within_one_another(self):
        self.assertIs(is_kind(DEEP_KIND), True)
        self.assertIs(is_kind(row(DEEP_KIND)), False)
        self.assertIs(is_kind(pair(NUM, DEEP_KIND)), False)
        self.assertIs(is_kind(pair(DEEP_KIND, NUM)), False)
        self.assertIs(is_kind(full_kind(5)), True)
        self.assertIs(is_kind(full_kind(6)), False)

    def test_things_that_are_none(self):
        for thing in odd_things():
            self.assertIs(unchanged(is_kind, thing), False, repr(thing)[:80])

    def test_none_within(self):
        for thing in odd_things():
            self.assertIs(is_kind(("row", thing)), False)
            self.assertIs(is_kind(("pair", NUM, thing)), False)
            self.assertIs(is_kind(("pair", thing, NUM)), False)

    def test_a_part_more_or_less(self):
        for thing in [("num", NUM), ("truth", NUM), ("row",), ("row", NUM, NUM), ("pair", NUM), ("pair", NUM, NUM, NUM)]:
            self.assertIs(is_kind(thing), False)

    def test_a_list_in_the_place_of_a_tuple(self):
        for thing in [["num"], ["row", NUM], ("row", ["num"]), ["pair", NUM, NUM], ("pair", NUM, ["truth"])]:
            self.assertIs(is_kind(thing), False)


class HowAKindIsWritten(unittest.TestCase):
    def test_texts(self):
        for text, kind in WRITTEN.items():
            self.assertEqual(unchanged(kind_text, kind), text)
            self.assertEqual(read_kind(text), kind)

    def test_what_is_written_is_read_again(self):
        maker = Maker(4)
        for _ in range(300):
            kind = maker.kind(5)
            self.assertEqual(read_kind(kind_text(kind)), kind)
            self.assertEqual(read_kind(kind_text(kind)), kind)

    def test_refused_at_the_first_word_that_cannot_stand(self):
        for text, at in [
            ("", 0), (" ", 0), (" num", 0), ("nun", 0), ("Num", 0), ("num\t", 0), ("num\n", 0), ("\tnum", 0), ("5", 0),
            ("one", 0), ("[", 0), ("yes", 0), ("num\ttruth", 0), ("row,num", 0),
            ("num num", 1), ("num ", 1), ("truth truth", 1), ("row num num", 2), ("pair num num num", 3),
            ("row num ", 2), ("row num\n", 1), ("row num \n", 2), ("row", 1), ("pair", 1), ("pair num", 2),
            ("pair row num", 3), ("row pair num", 3), ("pair pair num num", 4), ("row row row row", 4),
            ("row  num", 1), ("pair num  num", 2), ("pair  num num", 1), ("row ", 1), ("pair num ", 2),
            ("row row row row row num", 4), ("row row row row row", 4), ("row row row row pair num num", 4),
            ("pair num row row row row num", 5), ("pair row row row num row row row row", 8),
            ("row row row row nun", 4), ("pair num nun", 2), ("pair nun num", 1), ("row row row row num num", 5),
        ]:
            self.assertEqual(refusal(NoText, read_kind, text).at, at, repr(text))

    def test_a_text_that_is_cut_off(self):
        for text in WRITTEN:
            words = text.split(" ")
            for many in range(1, len(words)):
                self.assertEqual(refusal(NoText, read_kind, " ".join(words[:many])).at, many)

    def test_a_word_that_is_none_anywhere(self):
        for text in WRITTEN:
            words = text.split(" ")
            for at in range(len(words) + 1):
                for word in ("?", "", "ro", "num\n"):
                    put_in = " ".join(words[:at] + [word] + words[at:])
                    self.assertEqual(refusal(NoText, read_kind, put_in).at, at)


class TakeKind(unittest.TestCase):
    def test_from_the_beginning_middle_and_to_the_end(self):
        words = ["row", "num", "pair", "num", "row", "truth", "num", "?"]
        self.assertEqual(unchanged(take_kind, words, 0), (row(NUM), 2))
        self.assertEqual(unchanged(take_kind, words, 1), (NUM, 2))
        self.assertEqual(unchanged(take_kind, words, 2), (pair(NUM, row(TRUTH)), 6))
        self.assertEqual(unchanged(take_kind, words, 4), (row(TRUTH), 6))
        self.assertEqual(take_kind(words[:6], 2), (pair(NUM, row(TRUTH)), 6))
        self.assertEqual(take_kind(["num"], 0), (NUM, 1))

    def test_refused_by_the_number_in_the_list(self):
        words = ["row", "num", "pair", "num", "?", "row"]
        for some, start, at in [
            (words, 2, 4), (words, 4, 4), (words, 5, 6), (words, 6, 6), ([], 0, 0), (["num"], 1, 1), ([""], 0, 0),
            (["num", "row", "row"], 1, 3), (["x"] + ["row"] * 5 + ["num"], 1, 5), (["row num"], 0, 0),
        ]:
            self.assertEqual(refusal(NoText, take_kind, some, start).at, at, (some, start))

    def test_words_behind_are_not_looked_at(self):
        self.assertEqual(take_kind(["row", "row", "row", "row", "num", "row"], 0), (DEEP_KIND, 5))
        self.assertEqual(take_kind(["row", "row", "row", "row", "row", "num"], 1), (DEEP_KIND, 6))


if __name__ == "__main__":
    unittest.main()
