import unittest

from broadrow.errors import NoText
from broadrow.worths import is_worth, read_worth, size, take_worth, worth_text
from helper import GREAT, NUM, TRUTH, Maker, no_list_twice, odd_things, pair, refusal, row, unchanged

PAIRS = row(pair(NUM, TRUTH))

WRITTEN = [
    (NUM, 0, "0"), (NUM, 7, "7"), (NUM, -7, "-7"), (NUM, 10, "10"), (NUM, 100, "100"),
    (NUM, GREAT, "1000000000000000000"), (NUM, -GREAT, "-1000000000000000000"),
    (TRUTH, True, "yes"), (TRUTH, False, "no"),
    (pair(NUM, TRUTH), (1, True), "1 yes"), (pair(TRUTH, NUM), (False, 0), "no 0"),
    (pair(pair(NUM, NUM), NUM), ((1, 2), 3), "1 2 3"), (pair(NUM, pair(NUM, NUM)), (1, (2, 3)), "1 2 3"),
    (row(NUM), [], "[ ]"), (row(NUM), [1, -2, 3], "[ 1 -2 3 ]"), (row(TRUTH), [True, False], "[ yes no ]"),
    (row(row(NUM)), [], "[ ]"), (row(row(NUM)), [[]], "[ [ ] ]"), (row(row(NUM)), [[1], [], [2, 3]], "[ [ 1 ] [ ] [ 2 3 ] ]"),
    (PAIRS, [(1, True), (2, False)], "[ 1 yes 2 no ]"), (pair(row(NUM), row(TRUTH)), ([1], []), "[ 1 ] [ ]"),
]


class WhatIsAWorth(unittest.TestCase):
    def test_worths_of_their_kind(self):
        for kind, worth, _ in WRITTEN:
            self.assertIs(unchanged(is_worth, kind, worth), True)

    def test_numbers_at_the_bounds_and_beyond(self):
        for number in (0, 1, -1, GREAT, -GREAT, GREAT - 1, 1 - GREAT):
            self.assertIs(is_worth(NUM, number), True)
        for number in (GREAT + 1, -GREAT - 1, 10 ** 59, -10 ** 59):
            self.assertIs(is_worth(NUM, number), False)

    def test_truths_are_no_numbers_and_numbers_no_truths(self):
        for truth in (True, False):
            self.assertIs(is_worth(TRUTH, truth), True)
            self.assertIs(is_worth(NUM, truth), False)
            self.assertIs(is_worth(row(NUM), [truth]), False)
            self.assertIs(is_worth(pair(NUM, TRUTH), (truth, truth)), False)
        for number in (0, 1):
            self.assertIs(is_worth(NUM, number), True)
            self.assertIs(is_worth(TRUTH, number), False)
            self.assertIs(is_worth(row(TRUTH), [number]), False)
            self.assertIs(is_worth(pair(NUM, TRUTH), (number, number)), False)

    def test_lists_and_tuples_are_not_one(self):
        self.assertIs(is_worth(row(NUM), (1, 2)), False)
        self.assertIs(is_worth(row(NUM), ()), False)
        self.assertIs(is_worth(pair(NUM, NUM), [1, 2]), False)
        self.assertIs(is_worth(row(row(NUM)), [(1,)]), False)
        self.assertIs(is_worth(PAIRS, [[1, True]]), False)

    def test_pairs_have_two(self):
        for thing in [(), (1,), (1, 2, 3), ((1, 2),)]:
            self.assertIs(is_worth(pair(NUM, NUM), thing), False)

    def test_rows_of_200_and_201(self):
        for kind, one in [(NUM, 5), (TRUTH, True), (row(NUM), [1]), (pair(NUM, NUM), (1, 2))]:
            self.assertIs(is_worth(row(kind), [one] * 200), True)
            self.assertIs(is_worth(row(kind), [one] * 201), False)
        self.assertIs(is_worth(row(row(NUM)), [[], [0] * 200]), True)
        self.assertIs(is_worth(row(row(NUM)), [[], [0] * 201]), False)

    def test_other_things(self):
        for thing in odd_things():
            if not isinstance(thing, (bool, int, list)):
                for kind in (NUM, TRUTH, row(NUM), row(TRUTH), pair(NUM, NUM), row(row(NUM))):
                    self.assertIs(unchanged(is_worth, kind, thing), False)
            self.assertIs(is_worth(pair(row(NUM), TRUTH), thing), False)
        for thing in (None, "1", "yes", (), [], (1,)):
            self.assertIs(is_worth(NUM, thing), False)
            self.assertIs(is_worth(TRUTH, thing), False)
            self.assertIs(is_worth(row(NUM), [1, thing]), False)
        self.assertIs(is_worth(row(NUM), [[]]), False)
        self.assertIs(is_worth(row(row(NUM)), [1]), False)


class HowAWorthIsWritten(unittest.TestCase):
    def test_texts(self):
        for kind, worth, text in WRITTEN:
            self.assertEqual(unchanged(worth_text, worth), text)
            self.assertEqual(repr(unchanged(read_worth, kind, text)), repr(worth))

    def test_what_is_written_is_read_again(self):
        maker = Maker(5)
        for _ in range(400):
            kind = maker.kind(4)
            worth = maker.worth(kind)
            self.assertIs(is_worth(kind, worth), True)
            self.assertEqual(repr(read_worth(kind, worth_text(worth))), repr(worth))

    def test_numbers_written_otherwise(self):
        for word in (
            "-0", "07", "00", "-07", "+1", "+0", "", "-", "--1", "1.0", "1e3", "1_000", "0x1", "yes", "no", "x", "[", "]",
            "1\t", "1\n", "\t1", "\n1", "1,", "1000000000000000001", "-1000000000000000001", "9" * 60, "-" + "9" * 60,
            "1" * 3999, "0" * 3999,
        ):
            self.assertEqual(refusal(NoText, read_worth, NUM, word).at, 0, repr(word)[:40])
            self.assertEqual(refusal(NoText, read_worth, pair(NUM, NUM), "3 " + word).at, 1, repr(word)[:40])

    def test_truths_written_otherwise(self):
        for word in ("", "0", "1", "Yes", "true", "True", "yes\n", "no\t", "[", "]", "yesno"):
            self.assertEqual(refusal(NoText, read_worth, TRUTH, word).at, 0)

    def test_brackets_and_words_that_lack_or_are_too_many(self):
        for kind, text, at in [
            (NUM, "1 2", 1), (NUM, "1 ", 1), (NUM, " 1", 0), (TRUTH, "yes no", 1), (NUM, "[ 1 ]", 0),
            (pair(NUM, NUM), "1", 1), (pair(NUM, NUM), "1 2 3", 2), (pair(NUM, TRUTH), "1 2", 1), (pair(NUM, NUM), "", 0),
            (pair(NUM, TRUTH), "yes 1", 0), (pair(NUM, NUM), "1  2", 1), (pair(NUM, NUM), "[ 1 2 ]", 0),
            (row(NUM), "", 0), (row(NUM), "1", 0), (row(NUM), "]", 0), (row(NUM), "[", 1), (row(NUM), "[ 1", 2),
            (row(NUM), "[ 1 2", 3), (row(NUM), "[ 1 ] ]", 3), (row(NUM), "[ 1 ] 2", 3), (row(NUM), "[ ] [ ]", 2),
            (row(NUM), "[ [", 1), (row(NUM), "[ [ ] ]", 1), (row(NUM), "[]", 0), (row(NUM), "[1 ]", 0), (row(NUM), "[ 1]", 1),
            (row(NUM), "[  ]", 1), (row(NUM), "[ 1  2 ]", 2), (row(NUM), "[ 1 ] ", 3), (row(NUM), "[ 1 ]\n", 2),
            (row(NUM), "[ 1 ]\t", 2), (row(NUM), "[ 1 ] \n", 3), (row(NUM), "[ yes ]", 1), (row(TRUTH), "[ yes 1 ]", 2),
            (row(row(NUM)), "[ [ ]", 3), (row(row(NUM)), "[ [ 1 ]", 4), (row(row(NUM)), "[ 1 ]", 1), (row(row(NUM)), "[ [ ] ] ]", 4),
            (row(row(NUM)), "[ [ 1 ] 2 ]", 4), (row(row(NUM)), "[ [ [ ] ] ]", 2), (PAIRS, "[ 1 yes 2 ]", 4), (PAIRS, "[ 1 ]", 2),
            (PAIRS, "[ 1 yes yes ]", 3), (PAIRS, "[ 1 yes 2", 4), (pair(row(NUM), NUM), "[ 1 ]", 3), (pair(row(NUM), NUM), "[ 1 2", 3),
        ]:
            self.assertEqual(refusal(NoText, read_worth, kind, text).at, at, (kind, text))

    def test_rows_of_200_and_201_words(self):
        full = ["["] + ["7"] * 200 + ["]"]
        self.assertEqual(read_worth(row(NUM), " ".join(full)), [7] * 200)
        self.assertEqual(refusal(NoText, read_worth, row(NUM), " ".join(full[:-1])).at, 201)
        self.assertEqual(refusal(NoText, read_worth, row(NUM), " ".join(full[:-1] + ["7", "]"])).at, 201)
        self.assertEqual(refusal(NoText, read_worth, row(NUM), " ".join(full[:-1] + ["7", "7", "]"])).at, 201)
        wide = ["["] + ["7", "no"] * 200
        self.assertEqual(read_worth(PAIRS, " ".join(wide + ["]"])), [(7, False)] * 200)
        self.assertEqual(refusal(NoText, read_worth, PAIRS, " ".join(wide + ["7", "no", "]"])).at, 401)
        within = ["[", "[", "]"] + full
        self.assertEqual(read_worth(row(row(NUM)), " ".join(within + ["]"])), [[], [7] * 200])
        self.assertEqual(refusal(NoText, read_worth, row(row(NUM)), " ".join(within[:-1] + ["7", "]", "]"])).at, 204)

    def test_a_text_that_is_cut_off_or_has_a_word_that_is_none(self):
        for kind, _, text in WRITTEN:
            words = text.split(" ")
            for at in range(1, len(words)):
                self.assertEqual(refusal(NoText, read_worth, kind, " ".join(words[:at])).at, at)
            for at in range(len(words) + 1):
                for word in ("?", "", "01"):
                    put_in = " ".join(words[:at] + [word] + words[at:])
                    self.assertEqual(refusal(NoText, read_worth, kind, put_in).at, at)


class TakeWorth(unittest.TestCase):
    WORDS = ["[", "1", "2", "]", "yes", "3", "no", "[", "5"]

    def test_from_the_beginning_middle_and_to_the_end(self):
        words = self.WORDS
        self.assertEqual(unchanged(take_worth, row(NUM), words, 0), ([1, 2], 4))
        self.assertEqual(unchanged(take_worth, NUM, words, 1), (1, 2))
        self.assertEqual(unchanged(take_worth, pair(NUM, NUM), words, 1), ((1, 2), 3))
        self.assertEqual(unchanged(take_worth, TRUTH, words, 4), (True, 5))
        self.assertEqual(unchanged(take_worth, pair(TRUTH, pair(NUM, TRUTH)), words, 4), ((True, (3, False)), 7))
        self.assertEqual(unchanged(take_worth, NUM, words, 8), (5, 9))

    def test_refused_by_the_number_in_the_list(self):
        words = self.WORDS
        for kind, start, at in [
            (NUM, 0, 0), (NUM, 3, 3), (NUM, 9, 9), (TRUTH, 9, 9), (row(NUM), 9, 9), (pair(NUM, NUM), 8, 9), (row(NUM), 7, 9),
            (row(NUM), 1, 1), (pair(TRUTH, TRUTH), 4, 5), (row(TRUTH), 0, 1), (row(row(NUM)), 7, 8), (pair(NUM, NUM), 2, 3),
        ]:
            self.assertEqual(refusal(NoText, take_worth, kind, words, start).at, at, (kind, start))
        self.assertEqual(refusal(NoText, take_worth, NUM, [], 0).at, 0)

    def test_what_is_told_is_the_askers_own(self):
        kind, text = row(row(NUM)), "[ [ 1 ] [ 1 ] [ ] [ ] ]"
        first, second = read_worth(kind, text), read_worth(kind, text)
        self.assertTrue(no_list_twice(first, second))
        first[0].append(9)
        first.append([8])
        self.assertEqual(second, [[1], [1], [], []])
        self.assertEqual(read_worth(kind, text), [[1], [1], [], []])
        words = ["[", "1", "]"]
        taken = take_worth(row(NUM), words, 0)
        words[1] = "2"
        self.assertEqual(taken, ([1], 3))


class Sizes(unittest.TestCase):
    def test_sizes(self):
        for worth, many in [
            (0, 1), (-GREAT, 1), (True, 1), (False, 1), ((1, 2), 2), ((1, (True, 3)), 3), ([], 1), ([1], 2), ([1, 2, 3], 4),
            ([[]], 2), ([[], []], 3), ([[1], [2, 3]], 6), ([(1, 2), (3, 4)], 5), (([], []), 2), (([1], 2), 3), ([([1], True)], 4),
            ([[[1]]], 4), ([0] * 200, 201), ([True] * 3, 4),
        ]:
            self.assertEqual(unchanged(size, worth), many, worth)
            self.assertEqual(size(worth), many)


if __name__ == "__main__":
    unittest.main()
