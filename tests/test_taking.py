import unittest

from broadrow.errors import BroadError, NoKind, NoLine, NoPlace, NoRule, NoText, NoThing
from broadrow.flats import flat_of, is_flat, worths_of
from broadrow.taking import behind, first_ones, kept, merged, spread, taken
from helper import DEEP_KIND, NUM, TRUTH, Maker, no_list_twice, pair, refusal, row, told_own, unchanged

# Worths of each kind, none of them twice where the kind has enough.
WORTHS = [
    (NUM, [5, 6, 7, 8]),
    (TRUTH, [True, False, False, True]),
    (pair(NUM, TRUTH), [(1, True), (2, False), (3, True), (4, True)]),
    (row(NUM), [[1, 2], [], [3], [4, 5, 6]]),
    (row(TRUTH), [[], [True], [False, True], []]),
    (row(row(NUM)), [[[1], []], [], [[2, 3]], [[], [], [4]]]),
    (row(pair(NUM, row(NUM))), [[(1, [2])], [], [(3, []), (4, [5, 6])], [(7, [])]]),
    (pair(row(NUM), pair(TRUTH, row(TRUTH))), [([1], (True, [])), ([], (False, [True])), ([2, 3], (True, [False])), ([], (False, []))]),
    (DEEP_KIND, [[[[[1]]]], [], [[[], [[2]]]], [[]]]),
]

TRUTHS = [[True] * 4, [False] * 4, [True, False, True, False], [False, True, True, True], [False, False, False, True]]


class Takings(unittest.TestCase):
    def tells(self, kind, worths, call, *some):
        """Whether a call tells the flat of these worths."""
        told = unchanged(call, *some)
        self.assertEqual(repr(told), repr(flat_of(kind, worths)), (call.__name__, some))
        self.assertIs(is_flat(kind, told, len(worths)), True)

    def test_taken(self):
        for kind, worths in WORTHS:
            for numbers in ([], [0], [3], [0, 1, 2, 3], [3, 2, 1, 0], [2, 2, 2], [1, 3, 1, 0, 0, 3], [2] * 300):
                self.tells(kind, [worths[number] for number in numbers], taken, kind, flat_of(kind, worths), numbers)
            self.tells(kind, [], taken, kind, flat_of(kind, []), [])

    def test_no_thing(self):
        for kind, worths in WORTHS:
            flat = flat_of(kind, worths)
            for numbers, number in [
                ([-1], -1), ([4], 4), ([0, 1, 4, -1], 4), ([0, 3, -1, 4], -1), ([-4], -4), ([10 ** 59], 10 ** 59), ([1, -10 ** 59, 7], -10 ** 59),
                ([0, 1, 2, 3, 4], 4), ([5, 4], 5),
            ]:
                self.assertEqual(unchanged(refusal, NoThing, taken, kind, flat, numbers).number, number)
            self.assertEqual(refusal(NoThing, taken, kind, flat_of(kind, []), [0]).number, 0)
            self.assertEqual(refusal(NoThing, taken, kind, flat_of(kind, []), [-1, 0]).number, -1)
            self.assertEqual(refusal(NoThing, taken, kind, flat_of(kind, worths[:1]), [0, 0, 1]).number, 1)

    def test_the_class_of_no_thing(self):
        error = refusal(ValueError, taken, NUM, [1], [1])
        self.assertIsInstance(error, NoThing)
        self.assertIsInstance(error, BroadError)
        for other in (NoText, NoKind, NoPlace, NoRule, NoLine):
            self.assertNotIsInstance(error, other)

    def test_behind(self):
        for kind, worths in WORTHS:
            for at in range(5):
                self.tells(kind, worths, behind, kind, flat_of(kind, worths[:at]), flat_of(kind, worths[at:]))
            self.tells(kind, worths + worths, behind, kind, flat_of(kind, worths), flat_of(kind, worths))
            self.tells(kind, [], behind, kind, flat_of(kind, []), flat_of(kind, []))

    def test_kept(self):
        for kind, worths in WORTHS:
            for truths in TRUTHS:
                some = [worth for worth, truth in zip(worths, truths) if truth]
                self.tells(kind, some, kept, kind, flat_of(kind, worths), truths)
            self.tells(kind, [], kept, kind, flat_of(kind, []), [])

    def test_merged(self):
        for kind, worths in WORTHS:
            for truths in TRUTHS + [[]]:
                one = [worth for worth, truth in zip(worths, truths) if truth]
                other = [worth for worth, truth in zip(worths, truths) if not truth]
                self.tells(kind, worths[:len(truths)], merged, kind, truths, flat_of(kind, one), flat_of(kind, other))
        self.tells(NUM, [7, 1, 2, 8, 9, 3], merged, NUM, [False, True, True, False, False, True], [1, 2, 3], [7, 8, 9])

    def test_spread(self):
        for kind, worths in WORTHS:
            for lengths in ([0, 0, 0, 0], [1, 1, 1, 1], [2, 0, 3, 1], [0, 0, 0, 5], [200, 0, 0, 1]):
                some = [worth for worth, length in zip(worths, lengths) for _ in range(length)]
                self.tells(kind, some, spread, kind, flat_of(kind, worths), lengths)
            self.tells(kind, [], spread, kind, flat_of(kind, []), [])

    def test_first_ones(self):
        for kind, worths in WORTHS:
            for many in range(5):
                self.tells(kind, worths[:many], first_ones, kind, flat_of(kind, worths), many)
            self.tells(kind, [], first_ones, kind, flat_of(kind, []), 0)

    def test_of_made_flats(self):
        maker = Maker(18)
        for _ in range(200):
            kind = maker.kind(5)
            many = maker.chance.choice([0, 1, 2, 7])
            worths = [maker.worth(kind, 3) for _ in range(many)]
            numbers = [maker.chance.randrange(many) for _ in range(6)] if many else []
            truths = [maker.worth(TRUTH) for _ in range(many)]
            lengths = [maker.chance.randint(0, 3) for _ in range(many)]
            flat = flat_of(kind, worths)
            self.tells(kind, [worths[number] for number in numbers], taken, kind, flat, numbers)
            self.tells(kind, [worths[at] for at in range(many) if truths[at]], kept, kind, flat, truths)
            self.tells(kind, [worths[at] for at in range(many) for _ in range(lengths[at])], spread, kind, flat, lengths)
            one, other = kept(kind, flat, truths), kept(kind, flat, [not truth for truth in truths])
            self.assertEqual(repr(worths_of(kind, merged(kind, truths, one, other), many)), repr(worths))


class TheAskersOwn(unittest.TestCase):
    def test_no_list_told_is_handed_in_or_told_twice(self):
        for kind, worths in WORTHS:
            for numbers in ([], [0, 1, 2, 3], [1, 1]):
                told_own(taken, kind, flat_of(kind, worths), numbers)
            told_own(behind, kind, flat_of(kind, worths), flat_of(kind, worths))
            told_own(behind, kind, flat_of(kind, worths), flat_of(kind, []))
            told_own(behind, kind, flat_of(kind, []), flat_of(kind, worths))
            told_own(kept, kind, flat_of(kind, worths), [True] * 4)
            told_own(merged, kind, [True] * 4, flat_of(kind, worths), flat_of(kind, []))
            told_own(merged, kind, [False] * 4, flat_of(kind, []), flat_of(kind, worths))
            told_own(spread, kind, flat_of(kind, worths), [1] * 4)
            told_own(first_ones, kind, flat_of(kind, worths), 4)
            told_own(first_ones, kind, flat_of(kind, worths), 0)

    def test_one_flat_handed_in_twice(self):
        for kind, worths in WORTHS:
            flat = flat_of(kind, worths)
            self.assertTrue(no_list_twice(behind(kind, flat, flat), flat))
            self.assertTrue(no_list_twice(merged(kind, [True, False] * 4, flat, flat), flat))


if __name__ == "__main__":
    unittest.main()
