import unittest

from broadrow.stops import (
    Stop, beyond_word, cut_word, empty_word, great_word, keep_word, long_word, nought_word, sums_word, turns_word, upto_word,
)
from helper import GREAT


class Words(unittest.TestCase):
    def stops(self, call, word, *inputs):
        for some in inputs:
            self.assertEqual(call(*some), word, some)

    def goes_on(self, call, *inputs):
        self.stops(call, None, *inputs)

    def test_great(self):
        self.goes_on(great_word, (0,), (GREAT,), (-GREAT,))
        self.stops(great_word, "great", (GREAT + 1,), (-GREAT - 1,), (GREAT ** 2,))

    def test_great_of_a_beginning(self):
        self.goes_on(sums_word, ([],), ([GREAT],), ([GREAT, -1, 1],), ([-GREAT, GREAT, GREAT],))
        self.stops(sums_word, "great", ([GREAT, 1],), ([GREAT, 1, -1],), ([-GREAT, -1],), ([-GREAT, -1, 1],), ([0, GREAT, 0, 1, -9],))

    def test_nought(self):
        self.goes_on(nought_word, (1,), (-1,), (GREAT,))
        self.stops(nought_word, "nought", (0,))

    def test_beyond(self):
        self.goes_on(beyond_word, (1, 0), (200, 199))
        self.stops(beyond_word, "beyond", (0, 0), (1, 1), (1, -1), (5, -5), (5, GREAT))

    def test_empty(self):
        self.goes_on(empty_word, (1,), (200,))
        self.stops(empty_word, "empty", (0,))

    def test_far(self):
        self.goes_on(upto_word, (0,), (200,))
        self.stops(upto_word, "far", (-1,), (201,))
        self.goes_on(turns_word, (0,), (60,))
        self.stops(turns_word, "far", (-1,), (61,))
        self.goes_on(long_word, (0,), (200,))
        self.stops(long_word, "far", (201,))

    def test_unlike(self):
        self.goes_on(keep_word, (0, 0), (3, 3))
        self.stops(keep_word, "unlike", (0, 1), (1, 0), (2, 3))
        self.goes_on(cut_word, (0, []), (0, [0, 0]), (3, [1, 0, 2]))
        self.stops(cut_word, "unlike", (1, []), (0, [1]), (2, [3, -1]), (2, [1]), (2, [3]), (0, [GREAT, -GREAT]))

    def test_what_ends_a_reading(self):
        stop = Stop("far", (0, 1), (2,))
        self.assertEqual((stop.word, stop.place, stop.turns), ("far", (0, 1), (2,)))


if __name__ == "__main__":
    unittest.main()
