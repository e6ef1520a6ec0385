import unittest

from broadrow.flats import flat_of, is_flat, many_in, parted, size_in, worths_of
from broadrow.worths import size
from helper import DEEP_KIND, GREAT, NUM, TRUTH, Maker, no_list_twice, odd_things, pair, row, told_own, unchanged

# Kinds, worths of each, and their flats.
FLATS = [
    (NUM, [], []), (NUM, [5], [5]), (NUM, [5, -GREAT, GREAT], [5, -GREAT, GREAT]),
    (TRUTH, [], []), (TRUTH, [True], [True]), (TRUTH, [False, True, True], [False, True, True]),
    (pair(NUM, TRUTH), [], ([], [])), (pair(NUM, TRUTH), [(1, True)], ([1], [True])),
    (pair(NUM, TRUTH), [(1, True), (2, False), (0, True)], ([1, 2, 0], [True, False, True])),
    (pair(pair(NUM, NUM), TRUTH), [((1, 2), True), ((3, 4), False)], (([1, 3], [2, 4]), [True, False])),
    (pair(TRUTH, pair(NUM, NUM)), [(True, (1, 2))], ([True], ([1], [2]))),
    (row(NUM), [], ([], [])), (row(NUM), [[]], ([0], [])), (row(NUM), [[], []], ([0, 0], [])),
    (row(NUM), [[7]], ([1], [7])), (row(NUM), [[1, 2], [], [3]], ([2, 0, 1], [1, 2, 3])),
    (row(TRUTH), [[True], [False, True]], ([1, 2], [True, False, True])),
    (row(NUM), [[4] * 200, [5] * 200], ([200, 200], [4] * 200 + [5] * 200)),
    (row(row(NUM)), [], ([], ([], []))), (row(row(NUM)), [[]], ([0], ([], []))), (row(row(NUM)), [[[]], []], ([1, 0], ([0], []))),
    (row(row(NUM)), [[[1, 2], []], [], [[3]]], ([2, 0, 1], ([2, 0, 1], [1, 2, 3]))),
    (row(row(row(NUM))), [[[[1], []]], [[], [[2, 3]]]], ([1, 2], ([2, 0, 1], ([1, 0, 2], [1, 2, 3])))),
    (pair(row(NUM), row(TRUTH)), [([1, 2], []), ([], [True])], (([2, 0], [1, 2]), ([0, 1], [True]))),
    (row(pair(NUM, TRUTH)), [[(1, True)], [], [(2, False), (3, True)]], ([1, 0, 2], ([1, 2, 3], [True, False, True]))),
    (row(pair(row(NUM), TRUTH)), [[([1, 2], True), ([], False)], []], ([2, 0], (([2, 0], [1, 2]), [True, False]))),
    (DEEP_KIND, [[[[[1]]]], []], ([1, 0], ([1], ([1], ([1], [1]))))),
]


class Flats(unittest.TestCase):
    def test_the_flat_of_worths(self):
        for kind, worths, flat in FLATS:
            self.assertEqual(repr(unchanged(flat_of, kind, worths)), repr(flat))

    def test_the_worths_of_a_flat(self):
        for kind, worths, flat in FLATS:
            self.assertEqual(repr(unchanged(worths_of, kind, flat, len(worths))), repr(worths))

    def test_how_many_and_how_great(self):
        for kind, worths, flat in FLATS:
            self.assertEqual(unchanged(many_in, kind, flat), len(worths))
            self.assertEqual(unchanged(size_in, kind, flat), sum([size(worth) for worth in worths]))
        self.assertEqual(size_in(row(NUM), ([2, 0, 1], [1, 2, 3])), 6)
        self.assertEqual(size_in(pair(NUM, row(TRUTH)), ([1, 2], ([0, 1], [True]))), 5)

    def test_made_worths_come_back(self):
        maker = Maker(16)
        for _ in range(400):
            kind = maker.kind(5)
            worths = [maker.worth(kind, 3) for _ in range(maker.chance.choice([0, 1, 2, 5]))]
            flat = flat_of(kind, worths)
            self.assertIs(is_flat(kind, flat, len(worths)), True)
            self.assertEqual(repr(worths_of(kind, flat, len(worths))), repr(worths))
            self.assertEqual(many_in(kind, flat), len(worths))
            self.assertEqual(size_in(kind, flat), sum([size(worth) for worth in worths]))


class IsFlat(unittest.TestCase):
    def is_one(self, kind, many, *things):
        for thing in things:
            self.assertIs(unchanged(is_flat, kind, thing, many), True, (kind, thing, many))

    def is_none(self, kind, many, *things):
        for thing in things:
            self.assertIs(unchanged(is_flat, kind, thing, many), False, (kind, thing, many))

    def test_those_that_are(self):
        for kind, worths, flat in FLATS:
            self.is_one(kind, len(worths), flat)

    def test_another_many(self):
        for kind, worths, flat in FLATS:
            for many in (len(worths) - 1, len(worths) + 1, -1, 999, 10 ** 59, -10 ** 59):
                self.is_none(kind, many, flat)

    def test_any_other_thing(self):
        for kind in (NUM, TRUTH, pair(NUM, TRUTH), row(NUM), row(pair(NUM, NUM)), pair(row(NUM), NUM)):
            for thing in odd_things():
                for many in (1, 2, 4999):
                    self.is_none(kind, many, thing)
        self.is_none(NUM, 0, (), None, "", 0, False, ([],), ([], []))
        self.is_none(pair(NUM, NUM), 0, [], (), ([],), ([], [], []), ([], ()), ((), []), [[], []], ([], None))
        self.is_none(row(NUM), 0, [], (), ([],), ([], [], []), ([], ()), ((), []), [[], []], (0, []), (None, []), ("", []))

    def test_lists_for_tuples_and_tuples_for_lists(self):
        self.is_none(NUM, 1, (5,), [[5]], [(5,)])
        self.is_none(pair(NUM, NUM), 1, [[1], [2]], ((1,), [2]), ([1], (2,)), [(1, 2)])
        self.is_none(row(NUM), 1, [[1], [2]], ((1,), [2]), ([1], (2,)), [[2]])
        self.is_none(row(row(NUM)), 1, ([1], [[1], [2]]), [[1], ([1], [2])], ([1], ([1], (2,))))

    def test_numbers_for_truths_and_truths_for_numbers(self):
        self.is_none(NUM, 1, [True], [False], [None], ["1"], [[]])
        self.is_none(TRUTH, 1, [1], [0], [None], ["yes"], [[]])
        self.is_none(NUM, 3, [1, 2, True], [False, 2, 3])
        self.is_none(TRUTH, 3, [True, 1, False], [True, True, 0])
        self.is_none(row(NUM), 1, ([True], [1]), ([1], [True]), ([False], []))
        self.is_none(row(TRUTH), 1, ([1], [1]), ([True], [True]))
        self.is_none(pair(NUM, TRUTH), 1, ([True], [True]), ([1], [1]))

    def test_numbers_beyond_the_bounds(self):
        self.is_one(NUM, 2, [GREAT, -GREAT])
        self.is_none(NUM, 1, [GREAT + 1], [-GREAT - 1], [10 ** 59], [-10 ** 59])
        self.is_none(row(NUM), 1, ([1], [GREAT + 1]))
        self.is_none(pair(NUM, NUM), 1, ([GREAT + 1], [0]), ([0], [-GREAT - 1]))

    def test_lengths(self):
        self.is_one(row(NUM), 1, ([200], [0] * 200), ([0], []))
        self.is_none(row(NUM), 1, ([201], [0] * 201), ([-1], []), ([-1], [0]), ([10 ** 59], [0]), ([-10 ** 59], []))
        self.is_none(row(NUM), 2, ([2, -1], [0]), ([-1, 2], [0]), ([201, 0], [0] * 201), ([1, None], [0]), ([1, "1"], [0, 0]))
        self.is_none(row(row(NUM)), 1, ([1], ([201], [0] * 201)), ([2], ([3, -1], [0, 0])), ([1], ([1], [])))

    def test_one_too_many_or_too_few(self):
        self.is_none(row(NUM), 2, ([1, 1], [0]), ([1, 1], [0, 0, 0]), ([1, 1, 0], [0, 0]), ([2], [0, 0]), ([0, 0], [0]))
        self.is_none(pair(NUM, NUM), 2, ([1], [1, 2]), ([1, 2], [1]), ([1, 2, 3], [1, 2]), ([1, 2], [1, 2, 3]))
        self.is_none(row(row(NUM)), 1, ([2], ([1], [5])), ([1], ([1, 0], [5])), ([1], ([1], [5, 5])))
        self.is_none(row(pair(NUM, NUM)), 1, ([1], ([1], [])), ([1], ([], [1])), ([1], ([1, 1], [1])))


class Parted(unittest.TestCase):
    def test_parted(self):
        for lengths, things, rows in [
            ([], [], []), ([0], [], [[]]), ([0, 0], [], [[], []]), ([3], [1, 2, 3], [[1, 2, 3]]), ([1, 2], [1, 2, 3], [[1], [2, 3]]),
            ([0, 2, 0, 0, 1, 0], [7, 8, 9], [[], [7, 8], [], [], [9], []]), ([1, 1], [True, 1], [[True], [1]]),
            ([1, 2], [[1], [], [2, 3]], [[[1]], [[], [2, 3]]]), ([2], [(1, [2]), None], [[(1, [2]), None]]), ([200, 1], [0] * 201, [[0] * 200, [0]]),
        ]:
            self.assertEqual(repr(unchanged(parted, lengths, things)), repr(rows))


class TheAskersOwn(unittest.TestCase):
    def test_no_list_told_is_handed_in_or_told_twice(self):
        maker = Maker(17)
        for _ in range(150):
            kind = maker.kind(4)
            worths = [maker.worth(kind, 3) for _ in range(3)]
            told_own(worths_of, kind, flat_of(kind, worths), 3)
            told_own(flat_of, kind, worths)
        told_own(parted, [1, 0, 2], [[1], [[2]], ([3], 4)])
        told_own(parted, [], [])

    def test_one_list_handed_in_twice(self):
        same = [1, 2]
        self.assertTrue(no_list_twice(flat_of(row(row(NUM)), [[same, same], [same]]), same))
        self.assertTrue(no_list_twice(flat_of(pair(row(NUM), row(NUM)), [(same, same)]), same))
        self.assertTrue(no_list_twice(worths_of(pair(NUM, NUM), (same, same), 2), same))
        self.assertTrue(no_list_twice(worths_of(row(row(NUM)), (same, (same + [0], same + [])), 2), same))
        rows = parted([1, 1], [same, same])
        self.assertEqual(rows, [[[1, 2]], [[1, 2]]])
        self.assertTrue(no_list_twice(rows, same))


if __name__ == "__main__":
    unittest.main()
