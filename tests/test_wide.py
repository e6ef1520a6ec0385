import unittest

from broadrow.flats import flat_of, is_flat
from broadrow.kinding import kinds_of
from broadrow.kinds import is_kind
from broadrow.plain import read
from broadrow.wide import wide_step
from helper import DEEP_KIND, GREAT, NUM, SIGNS, TRUTH, Maker, no_list_twice, pair, row, told_own, unchanged

LEAVES = [("num", 0), ("num", 7), ("num", GREAT), ("yes",), ("no",), ("none", NUM), ("none", row(TRUTH)), ("none", pair(NUM, row(NUM)))]

ROWS, TRUTHS, NUMS = row(row(NUM)), row(TRUTH), row(NUM)
PAIRS = row(pair(NUM, row(TRUTH)))
FULL = list(range(200))

# Of a sign and kinds of its parts the parts' worths for some things, for none of which it stops.
FINE = [
    ("not", [TRUTH], [[True], [False], [True]]),
    ("first", [pair(NUM, TRUTH)], [[(1, True)], [(2, False)], [(3, True)]]),
    ("first", [pair(ROWS, TRUTH)], [[([[1], []], True)], [([], False)]]),
    ("second", [pair(NUM, TRUTH)], [[(1, True)], [(2, False)], [(3, True)]]),
    ("second", [pair(NUM, pair(NUMS, NUM))], [[(1, ([1, 2], 3))], [(2, ([], 4))]]),
    ("one", [NUM], [[1], [2], [3]]),
    ("one", [NUMS], [[[1, 2]], [[]], [[3]]]),
    ("one", [pair(NUM, TRUTHS)], [[(1, [True])], [(2, [])]]),
    ("upto", [NUM], [[0], [3], [1], [200], [0]]),
    ("long", [NUMS], [[[1, 2]], [[]], [FULL]]),
    ("long", [ROWS], [[[[1, 2], []]], [[]], [[[3]]]]),
    ("long", [PAIRS], [[[(1, []), (2, [True])]], [[]]]),
    ("sum", [NUMS], [[[1, 2, 3]], [[]], [[-5]], [[GREAT, -1, 1]], [[-GREAT, GREAT, GREAT]], [[GREAT, -GREAT, -GREAT]]]),
    ("sums", [NUMS], [[[1, 2, 3]], [[]], [[-5]], [[GREAT, -1, 1]], [[-GREAT, GREAT, GREAT]], [[0] * 200]]),
    ("most", [NUMS], [[[1, 5, 2]], [[-7]], [[-GREAT, GREAT]], [FULL]]),
    ("flat", [ROWS], [[[[1], [], [2, 3]]], [[]], [[[], []]], [[[4]]], [[[1] * 100, [2] * 100]]]),
    ("flat", [row(ROWS)], [[[[[1], []], [], [[2, 3]]]], [[]], [[[[]]]]]),
    ("flat", [row(PAIRS)], [[[[(1, [True])], []]], [[[(2, []), (3, [False])]]]]),
    ("add", [NUM, NUM], [[1, 2], [GREAT - 1, 1], [-GREAT, 0], [GREAT, -GREAT]]),
    ("sub", [NUM, NUM], [[1, 2], [1 - GREAT, 1], [GREAT, 0], [0, GREAT]]),
    ("mul", [NUM, NUM], [[3, -2], [10 ** 9, 10 ** 9], [-GREAT, 1], [GREAT, 0], [-10 ** 9, 10 ** 9]]),
    ("div", [NUM, NUM], [[7, 2], [-7, 2], [7, -2], [-7, -2], [0, 5], [-GREAT, -1]]),
    ("rest", [NUM, NUM], [[7, 2], [-7, 2], [7, -2], [-7, -2], [0, 5], [-1, GREAT]]),
    ("less", [NUM, NUM], [[1, 2], [2, 2], [3, 2]]),
    ("same", [NUM, NUM], [[1, 2], [2, 2], [3, 2]]),
    ("same", [TRUTH, TRUTH], [[True, True], [True, False], [False, True], [False, False]]),
    ("both", [TRUTH, TRUTH], [[True, True], [True, False], [False, True], [False, False]]),
    ("pair", [NUM, TRUTH], [[1, True], [2, False]]),
    ("pair", [NUMS, pair(NUM, ROWS)], [[[1], (2, [[]])], [[], (3, [[4], []])]]),
    ("pick", [NUMS, NUM], [[[7, 8, 9], 1], [[5], 0], [[1, 2], 1], [FULL, 199]]),
    ("pick", [TRUTHS, NUM], [[[True, False], 1], [[True], 0]]),
    ("pick", [ROWS, NUM], [[[[1], [2, 3]], 1], [[[]], 0], [[[4, 5], []], 0]]),
    ("pick", [PAIRS, NUM], [[[(1, [True]), (2, [])], 1], [[(3, [False, True])], 0]]),
    ("join", [NUMS, NUMS], [[[1, 2], [3]], [[], []], [[], [4]], [[5], []], [[1] * 120, [2] * 80], [FULL, []]]),
    ("join", [ROWS, ROWS], [[[[1], []], [[2, 3]]], [[], [[4]]], [[[]], []]]),
    ("join", [PAIRS, PAIRS], [[[(1, [True])], [(2, []), (3, [False])]], [[], []]]),
    ("keep", [NUMS, TRUTHS], [[[1, 2, 3], [True, False, True]], [[], []], [[4, 5], [False, False]], [FULL, [True] * 200]]),
    ("keep", [ROWS, TRUTHS], [[[[1, 2], [], [3]], [True, False, True]], [[[4]], [False]]]),
    ("keep", [PAIRS, TRUTHS], [[[(1, [True]), (2, [])], [False, True]], [[], []]]),
    ("cut", [NUMS, NUMS], [[[1, 2, 3], [1, 0, 2]], [[], []], [[], [0, 0]], [[4, 5], [2]], [FULL, [1] * 200]]),
    ("cut", [ROWS, NUMS], [[[[1], [], [2, 3]], [2, 1]], [[], []]]),
    ("cut", [PAIRS, NUMS], [[[(1, [True]), (2, [])], [1, 1]], [[], [0]]]),
    ("long", [DEEP_KIND], [[[[[[1]]]]], [[]]]),
]

# Of a sign the word, the kinds, and the parts' worths of things for which it stops.
STOPS = [
    ("add", "great", [NUM, NUM], [[GREAT, 1], [-GREAT, -1], [GREAT, GREAT]]),
    ("sub", "great", [NUM, NUM], [[GREAT, -1], [-GREAT, 1]]),
    ("mul", "great", [NUM, NUM], [[GREAT, 2], [10 ** 9 + 1, 10 ** 9], [-GREAT, GREAT]]),
    ("sum", "great", [NUMS], [[[GREAT, 1]], [[GREAT, 1, -1]], [[-GREAT, -1]], [[-GREAT, -1, 1]], [[1, GREAT, -5]]]),
    ("sums", "great", [NUMS], [[[GREAT, 1]], [[GREAT, 1, -1]], [[-GREAT, -1]], [[-GREAT, -1, 1]], [[1, GREAT, -5]]]),
    ("div", "nought", [NUM, NUM], [[1, 0], [0, 0], [-GREAT, 0]]),
    ("rest", "nought", [NUM, NUM], [[1, 0], [0, 0], [-GREAT, 0]]),
    ("pick", "beyond", [NUMS, NUM], [[[], 0], [[5], 1], [[5], -1], [[5, 6], -2], [FULL, 200], [[5], GREAT]]),
    ("pick", "beyond", [ROWS, NUM], [[[], 0], [[[1]], 1], [[[1]], -1]]),
    ("most", "empty", [NUMS], [[[]]]),
    ("upto", "far", [NUM], [[-1], [201], [GREAT], [-GREAT]]),
    ("join", "far", [NUMS, NUMS], [[FULL, [1]], [[1], FULL], [[1] * 100, [2] * 101], [FULL, FULL]]),
    ("join", "far", [ROWS, ROWS], [[[[]] * 200, [[]]], [[[1]], [[]] * 200]]),
    ("flat", "far", [ROWS], [[[FULL, [1]]], [[[1], [], FULL]], [[[1] * 67] * 3]]),
    ("flat", "far", [row(ROWS)], [[[[[]] * 200, [[]]]]]),
    ("keep", "unlike", [NUMS, TRUTHS], [[[], [True]], [[1], []], [[1, 2], [False]], [[1], [False, True]]]),
    ("keep", "unlike", [PAIRS, TRUTHS], [[[], [True]], [[(1, [])], []]]),
    ("cut", "unlike", [NUMS, NUMS], [[[], [1]], [[1], []], [[1, 2], [1]], [[1, 2], [3]], [[1, 2], [3, -1]], [[1], [-1, 2]], [[], [GREAT, -GREAT]]]),
    ("cut", "unlike", [ROWS, NUMS], [[[[1], [2]], [1]], [[], [-1, 1]]]),
]


def piece_of(sign, many):
    return (sign,) + (None,) * many


def plainly(piece, kinds, things):
    """What a wide step is to tell, by the plain reading of each thing by itself."""
    heads = tuple(zip("ab", kinds))
    tree = piece if piece[0] in ("num", "none") else piece[:1] + tuple([("name", head) for head, _ in heads])
    kind = kinds_of((heads, tree))[-1][1]
    worths, word = [], None
    for thing in things:
        told = read((heads, tree), thing)
        if told[0] == "stops":
            word = told[1]
            break
        worths.append(told[1])
    return (flat_of(kind, worths), len(worths), word), kind


def step(sign, kinds, things):
    """A wide step of parts' worths, told thing by thing."""
    flats = [flat_of(kind, [thing[at] for thing in things]) for at, kind in enumerate(kinds)]
    return unchanged(wide_step, piece_of(sign, len(kinds)), kinds, flats, len(things))


class WideSteps(unittest.TestCase):
    def as_plain(self, sign, kinds, things):
        told = step(sign, kinds, things)
        wanted, kind = plainly(piece_of(sign, len(kinds)), kinds, things)
        self.assertEqual(repr(told), repr(wanted), (sign, kinds, things))
        self.assertIs(is_flat(kind, told[0], told[1]), True)
        return told

    def goes_on(self, sign, kinds, things):
        self.assertEqual(self.as_plain(sign, kinds, things)[1:], (len(things), None))

    def test_each_sign_is_here(self):
        seen = [sign for sign, _, _ in FINE] + [piece[0] for piece in LEAVES]
        self.assertEqual(set(seen) | {"let", "if", "each", "times", "name"}, set(SIGNS))
        self.assertEqual(len({sign for sign, *_ in STOPS}), 14)

    def test_leaves(self):
        for many in (0, 1, 2, 500):
            for piece in LEAVES:
                wanted, _ = plainly(piece, [], [[]] * many)
                self.assertEqual(repr(unchanged(wide_step, piece, [], [], many)), repr(wanted))
        self.assertEqual(wide_step(("num", 7), [], [], 3), ([7, 7, 7], 3, None))
        self.assertEqual(repr(wide_step(("yes",), [], [], 2)), "([True, True], 2, None)")
        self.assertEqual(repr(wide_step(("no",), [], [], 2)), "([False, False], 2, None)")
        self.assertEqual(wide_step(("none", NUMS), [], [], 2), (([0, 0], ([], [])), 2, None))
        self.assertEqual(wide_step(("none", pair(NUM, TRUTH)), [], [], 0), (([], ([], [])), 0, None))

    def test_told_by_hand(self):
        for sign, kinds, flats, flat in [
            ("not", [TRUTH], [[True, False]], [False, True]),
            ("first", [pair(NUM, TRUTH)], [([1, 2], [True, False])], [1, 2]),
            ("second", [pair(NUM, TRUTH)], [([1, 2], [True, False])], [True, False]),
            ("one", [NUMS], [([2, 0], [1, 2])], ([1, 1], ([2, 0], [1, 2]))),
            ("upto", [NUM], [[3, 0]], ([3, 0], [0, 1, 2])),
            ("long", [NUMS], [([2, 0], [1, 2])], [2, 0]),
            ("sum", [NUMS], [([2, 0], [1, 2])], [3, 0]),
            ("sums", [NUMS], [([2, 3], [1, 2, 3, 4, 5])], ([2, 3], [0, 1, 0, 3, 7])),
            ("most", [NUMS], [([2, 1], [1, 2, -3])], [2, -3]),
            ("flat", [ROWS], [([2, 1], ([1, 0, 2], [7, 8, 9]))], ([1, 2], [7, 8, 9])),
            ("add", [NUM, NUM], [[1, 2], [3, 4]], [4, 6]),
            ("less", [NUM, NUM], [[1, 2], [2, 1]], [True, False]),
            ("pair", [NUM, TRUTH], [[1, 2], [True, False]], ([1, 2], [True, False])),
            ("pick", [NUMS, NUM], [([2, 3], [1, 2, 3, 4, 5]), [1, 0]], [2, 3]),
            ("join", [NUMS, NUMS], [([2, 0], [1, 2]), ([1, 1], [3, 4])], ([3, 1], [1, 2, 3, 4])),
            ("keep", [NUMS, TRUTHS], [([2, 1], [1, 2, 3]), ([2, 1], [False, True, True])], ([1, 1], [2, 3])),
            ("cut", [NUMS, NUMS], [([2, 1], [1, 2, 3]), ([3, 1], [1, 0, 1, 1])], ([3, 1], ([1, 0, 1, 1], [1, 2, 3]))),
        ]:
            self.assertEqual(repr(wide_step(piece_of(sign, len(kinds)), kinds, flats, 2)), repr((flat, 2, None)), sign)

    def test_of_no_things(self):
        for sign, kinds, _ in FINE:
            self.goes_on(sign, kinds, [])
        for sign, _, kinds, _ in STOPS:
            self.goes_on(sign, kinds, [])

    def test_of_one_and_of_several(self):
        for sign, kinds, things in FINE:
            for thing in things:
                self.goes_on(sign, kinds, [thing])
            self.goes_on(sign, kinds, things)
            self.goes_on(sign, kinds, things[::-1] + things)

    def test_a_stop_at_the_first_in_the_middle_and_at_the_last(self):
        for sign, word, kinds, bad in STOPS:
            fine = [things for one, some, things in FINE if (one, some) == (sign, kinds)][0]
            for thing in bad:
                self.assertEqual(self.as_plain(sign, kinds, [thing])[1:], (0, word))
                for at in range(len(fine) + 1):
                    things = fine[:at] + [thing] + fine[at:]
                    told = self.as_plain(sign, kinds, things)
                    self.assertEqual(told[1:], (at, word))
                    self.assertEqual(repr(told[0]), repr(step(sign, kinds, fine[:at])[0]))

    def test_several_stops_of_which_the_first_counts(self):
        for sign, word, kinds, bad in STOPS:
            fine = [things for one, some, things in FINE if (one, some) == (sign, kinds)][0]
            self.assertEqual(self.as_plain(sign, kinds, bad)[1:], (0, word))
            self.assertEqual(self.as_plain(sign, kinds, fine + bad + fine + bad)[1:], (len(fine), word))
            self.assertEqual(self.as_plain(sign, kinds, fine[:1] + bad[::-1] + fine)[1:], (1, word))

    def test_at_the_bound_and_one_beside_it(self):
        for sign, one, other, many in [
            ("add", [GREAT - 1, 1], [GREAT, 1], 1), ("add", [1 - GREAT, -1], [-GREAT, -1], 1), ("sub", [1 - GREAT, 1], [-GREAT, 1], 1),
            ("mul", [10 ** 9, 10 ** 9], [10 ** 9, 10 ** 9 + 1], 1), ("mul", [10 ** 9, -10 ** 9], [-10 ** 9, 10 ** 9 + 1], 1),
        ]:
            self.assertEqual(self.as_plain(sign, [NUM, NUM], [one, other])[1:], (many, "great"))
        for sign in ("sum", "sums"):
            self.assertEqual(self.as_plain(sign, [NUMS], [[[GREAT]], [[GREAT, 1, -1]]])[1:], (1, "great"))
            self.assertEqual(self.as_plain(sign, [NUMS], [[[-GREAT]], [[-GREAT, -1, 1]]])[1:], (1, "great"))
            # Beginnings are those of a row, not of all rows together.
            self.goes_on(sign, [NUMS], [[[GREAT]], [[GREAT]], [[-1, GREAT]]])
        self.assertEqual(self.as_plain("upto", [NUM], [[0], [-1]])[1:], (1, "far"))
        self.assertEqual(self.as_plain("upto", [NUM], [[200], [201]])[1:], (1, "far"))
        self.assertEqual(self.as_plain("join", [NUMS, NUMS], [[FULL[:199], [1]], [FULL[:199], [1, 2]]])[1:], (1, "far"))
        self.assertEqual(self.as_plain("flat", [ROWS], [[[FULL[:199], [1]]], [[FULL[:199], [1, 2]]]])[1:], (1, "far"))
        self.assertEqual(self.as_plain("cut", [NUMS, NUMS], [[[1, 2], [1, 1]], [[1, 2], [1, 2]]])[1:], (1, "unlike"))
        self.assertEqual(self.as_plain("cut", [NUMS, NUMS], [[[1, 2], [2, 0]], [[1, 2], [2, -1, 1]]])[1:], (1, "unlike"))

    def test_lengths_that_fit_only_together_do_not_fit(self):
        self.assertEqual(self.as_plain("keep", [NUMS, TRUTHS], [[[1, 2], [True]], [[3], [True, True]]])[1:], (0, "unlike"))
        self.assertEqual(self.as_plain("cut", [NUMS, NUMS], [[[1, 2], [1]], [[3], [2]]])[1:], (0, "unlike"))
        self.assertEqual(self.as_plain("pick", [NUMS, NUM], [[[1], 1], [[2, 3], 0]])[1:], (0, "beyond"))
        self.assertEqual(self.as_plain("pick", [NUMS, NUM], [[[1], 0], [[2, 3], -1]])[1:], (1, "beyond"))

    def test_more_things_than_a_row_may_have(self):
        self.goes_on("pick", [NUMS, NUM], [[[at, at + 1], at % 2] for at in range(1000)])
        self.goes_on("join", [NUMS, NUMS], [[[at], [at, at]] for at in range(1000)])
        self.goes_on("upto", [NUM], [[at % 7] for at in range(1000)])

    def test_made_steps(self):
        maker = Maker(20)
        seen = {}
        for _ in range(1500):
            some = maker.kind(3)
            sign, kinds = maker.chance.choice([
                ("not", [TRUTH]), ("first", [pair(some, NUM)]), ("second", [pair(NUM, some)]), ("one", [some]), ("upto", [NUM]), ("long", [row(some)]),
                ("sum", [NUMS]), ("sums", [NUMS]), ("most", [NUMS]), ("flat", [row(row(some))]), ("add", [NUM] * 2), ("sub", [NUM] * 2),
                ("mul", [NUM] * 2), ("div", [NUM] * 2), ("rest", [NUM] * 2), ("less", [NUM] * 2), ("same", [NUM] * 2), ("both", [TRUTH] * 2),
                ("pair", [some, NUM]), ("pick", [row(some), NUM]), ("join", [row(some)] * 2), ("keep", [row(some), TRUTHS]), ("cut", [row(some), NUMS]),
            ])
            self.assertTrue(all([is_kind(kind) for kind in kinds]))
            many = maker.chance.choice([0, 1, 2, 3, 6])
            things = [[maker.worth(kind, 3) for kind in kinds] for _ in range(many)]
            told = self.as_plain(sign, kinds, things)
            seen[sign, told[2]] = True
        self.assertEqual(len([one for one in seen if one[1] is None]), 23)
        self.assertGreater(len(seen), 30, "too few sorts of ends to tell anything")


class TheAskersOwn(unittest.TestCase):
    def test_no_list_told_is_handed_in_or_told_twice(self):
        for piece in LEAVES:
            for many in (0, 3):
                told_own(wide_step, piece, [], [], many)
        for sign, kinds, things in FINE:
            for some in ([], things):
                flats = [flat_of(kind, [thing[at] for thing in some]) for at, kind in enumerate(kinds)]
                told_own(wide_step, piece_of(sign, len(kinds)), list(kinds), flats, len(some))
        for sign, _, kinds, things in STOPS:
            flats = [flat_of(kind, [thing[at] for thing in things]) for at, kind in enumerate(kinds)]
            told_own(wide_step, piece_of(sign, len(kinds)), list(kinds), flats, len(things))

    def test_one_flat_handed_in_twice(self):
        flat = ([1, 2], [1, 0, 2])
        for sign in ("pair", "join", "cut"):
            told = wide_step((sign, None, None), [NUMS, NUMS], [flat, flat], 2)
            self.assertTrue(no_list_twice(told, flat), sign)
        same = [1, 2]
        self.assertTrue(no_list_twice(wide_step(("one", None), [pair(NUM, NUM)], [(same, same)], 2), same))


if __name__ == "__main__":
    unittest.main()
