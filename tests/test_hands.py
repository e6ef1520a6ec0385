import random
import unittest

from broadrow.hands import is_timetable, shown, shows, timetable
from broadrow.programs import read_program
from broadrow.waits import waits
from helper import Maker, no_list_twice, odd_things, told_own, unchanged


def steps_of(*some):
    """Waits of these tuples (width, ahead), at the places (0,), (1,) .."""
    return [((number,), (), width, list(ahead)) for number, (width, ahead) in enumerate(some)]


def some_steps(seed):
    """Waits of no run: any steps, each of which waits for some that a hidden order has ahead of it."""
    chance = random.Random(seed)
    many = chance.randint(0, 9)
    order = list(range(many))
    chance.shuffle(order)
    told = []
    for number in range(many):
        ahead = [one for one in range(many) if order[one] < order[number] and chance.random() < 0.35]
        told.append(((number,), (), chance.choice([1, 1, 2, 3, 5, 9]), ahead))
    return told


def simply_dealt(steps, hands):
    """The told timetable once more: each beat looks at all steps."""
    left = {number: step[2] for number, step in enumerate(steps)}
    beats = []
    while any(left.values()):
        free, beat, ended = hands, [], [number for number in left if left[number] == 0]
        for number, step in enumerate(steps):
            many = min(free, left[number])
            if many and all(one in ended for one in step[3]):
                beat.append((number, many))
                free -= many
        for number, many in beat:
            left[number] -= many
        beats.append(beat)
    return beats


def longest(steps):
    """How many steps the longest chain has, by trying all."""
    def behind(number):
        return 1 + max([behind(one) for one in steps[number][3]], default=0)
    return max([behind(number) for number in range(len(steps))], default=0)


def fewest(steps, hands):
    """How few beats any timetable takes, by trying all ways to deal."""
    start = tuple([step[2] for step in steps])
    reached, beats = {start}, 0
    while (0,) * len(steps) not in reached:
        later = set()
        for left in reached:
            ready = [number for number, step in enumerate(steps) if left[number] and not any(left[one] for one in step[3])]
            later |= set(dealings(left, ready, hands))
        reached, beats = later, beats + 1
    return beats


def dealings(left, ready, hands):
    if not ready:
        return [left]
    told = []
    for many in range(min(hands, left[ready[0]]) + 1):
        other = left[:ready[0]] + (left[ready[0]] - many,) + left[ready[0] + 1:]
        told += dealings(other, ready[1:], hands - many)
    return told


class Timetables(unittest.TestCase):
    def tells(self, steps, hands, beats):
        self.assertEqual(repr(unchanged(timetable, steps, hands)), repr(beats))

    def test_of_none_and_of_one(self):
        for hands in range(1, 21):
            self.tells([], hands, [])
            self.tells(steps_of((1, [])), hands, [[(0, 1)]])
            self.tells(steps_of((hands, [])), hands, [[(0, hands)]])
            self.tells(steps_of((hands + 1, [])), hands, [[(0, hands)], [(0, 1)]])
            self.tells(steps_of((3 * hands, [])), hands, [[(0, hands)]] * 3)
        self.tells(steps_of((5, [])), 2, [[(0, 2)], [(0, 2)], [(0, 1)]])
        self.tells(steps_of((5, [])), 6, [[(0, 5)]])

    def test_beside_one_another(self):
        steps = steps_of((1, []), (2, []), (4, []))
        self.tells(steps, 1, [[(0, 1)], [(1, 1)], [(1, 1)], [(2, 1)], [(2, 1)], [(2, 1)], [(2, 1)]])
        self.tells(steps, 2, [[(0, 1), (1, 1)], [(1, 1), (2, 1)], [(2, 2)], [(2, 1)]])
        self.tells(steps, 3, [[(0, 1), (1, 2)], [(2, 3)], [(2, 1)]])
        self.tells(steps, 7, [[(0, 1), (1, 2), (2, 4)]])
        self.tells(steps, 20, [[(0, 1), (1, 2), (2, 4)]])

    def test_one_behind_the_other(self):
        steps = steps_of((2, [1]), (3, [2]), (1, []))
        self.tells(steps, 1, [[(2, 1)], [(1, 1)], [(1, 1)], [(1, 1)], [(0, 1)], [(0, 1)]])
        self.tells(steps, 2, [[(2, 1)], [(1, 2)], [(1, 1)], [(0, 2)]])
        self.tells(steps, 20, [[(2, 1)], [(1, 3)], [(0, 2)]])
        # Hands that are left over in a beat don't begin what waits for a step of that beat.
        self.tells(steps_of((1, []), (1, [0]), (5, [])), 2, [[(0, 1), (2, 1)], [(1, 1), (2, 1)], [(2, 2)], [(2, 1)]])

    def test_lesser_numbers_first_also_among_those_that_come_later(self):
        steps = steps_of((2, [3]), (2, [3]), (3, []), (1, []))
        self.tells(steps, 2, [[(2, 2)], [(2, 1), (3, 1)], [(0, 2)], [(1, 2)]])
        self.tells(steps, 1, [[(2, 1)], [(2, 1)], [(2, 1)], [(3, 1)], [(0, 1)], [(0, 1)], [(1, 1)], [(1, 1)]])
        steps = steps_of((2, [1]), (1, []), (4, []), (1, [1]))
        self.tells(steps, 2, [[(1, 1), (2, 1)], [(0, 2)], [(2, 2)], [(2, 1), (3, 1)]])

    def test_of_runs(self):
        steps = waits(read_program(": each x upto 3 add x 10"), [])
        self.assertEqual([step[2] for step in steps], [4, 4, 1, 3, 3])
        self.tells(steps, 4, [[(2, 1)], [(1, 4)], [(4, 3)], [(3, 3)], [(0, 4)]])

    def test_against_a_simpler_one(self):
        for seed in range(300):
            steps = some_steps(seed)
            for hands in (1, 2, 3, 4, 7, 19, 20):
                told = unchanged(timetable, steps, hands)
                self.assertEqual(told, simply_dealt(steps, hands), (steps, hands))
                self.assertIs(unchanged(is_timetable, steps, hands, told), True)
                widths = sum(step[2] for step in steps)
                self.assertLessEqual(len(told), -(-widths // hands) + longest(steps))
                self.assertTrue(no_list_twice(told, steps))

    def test_of_many_runs_for_all_hands(self):
        for seed in range(80):
            program, worths = Maker(seed).program()
            steps = waits(program, worths)
            for hands in range(1, 21) if steps else ():
                told = timetable(steps, hands)
                self.assertTrue(is_timetable(steps, hands, told))
                least = shows(steps, hands, shown(steps, hands))
                self.assertLessEqual(least, len(told))
                self.assertLessEqual(len(told), 2 * least)

    def test_at_most_twice_as_long_as_any(self):
        tried = 0
        for seed in range(400):
            steps = [(*step[:2], min(step[2], 3), step[3]) for step in some_steps(seed)[:5]]
            steps = [(*step[:3], [one for one in step[3] if one < len(steps)]) for step in steps]
            for hands in (1, 2, 3):
                best, told = fewest(steps, hands), len(timetable(steps, hands))
                self.assertLessEqual(told, 2 * best)
                self.assertLessEqual(shows(steps, hands, shown(steps, hands)), best)
                tried += told != best
        self.assertGreater(tried, 5)

    def test_told_is_the_askers_own(self):
        told_own(timetable, steps_of((2, [1]), (3, [2]), (1, [])), 2)
        told_own(shown, steps_of((2, [1]), (3, [2]), (1, [])), 20)
        told_own(shown, steps_of((2, [1]), (3, [2]), (1, [])), 1)


class IsTimetable(unittest.TestCase):
    def is_one(self, steps, hands, thing):
        self.assertIs(unchanged(is_timetable, steps, hands, thing), True, (steps, hands, thing))

    def is_none(self, steps, hands, thing):
        self.assertIs(unchanged(is_timetable, steps, hands, thing), False, (steps, hands, thing))

    def setUp(self):
        self.steps = steps_of((2, [2]), (3, []), (1, []))
        self.beats = [[(1, 1), (2, 1)], [(0, 2)], [(1, 2)]]

    def test_others_than_the_told_one(self):
        self.is_one(self.steps, 2, self.beats)
        self.assertNotEqual(timetable(self.steps, 2), self.beats)
        for thing in [
            [[], [(1, 1), (2, 1)], [(0, 2)], [(1, 2)]], [[(1, 1), (2, 1)], [], [], [(0, 2)], [(1, 2)]], [[(1, 1), (2, 1)], [(0, 2)], [(1, 2)], []],
            [[(2, 1)], [(0, 1)], [(1, 1)], [(0, 1)], [(1, 1)], [(1, 1)]], [[(1, 2)], [(1, 1)], [(2, 1)], [(0, 1)], [(0, 1)]],
            [[(2, 1)], [(0, 1), (1, 1)], [(0, 1), (1, 1)], [(1, 1)]],
        ]:
            self.is_one(self.steps, 2, thing)
        self.is_one(self.steps, 20, self.beats)
        self.is_one([], 1, [])
        self.is_one([], 1, [[], []])

    def test_more_in_a_beat_than_hands(self):
        self.is_none(self.steps, 1, self.beats)
        self.is_none(self.steps, 2, [[(1, 2), (2, 1)], [(0, 2)], [(1, 1)]])
        self.is_one(self.steps, 3, [[(1, 2), (2, 1)], [(0, 2)], [(1, 1)]])
        self.is_none(self.steps, 2, [[(1, 3)], [(2, 1)], [(0, 2)]])

    def test_numbers_that_dont_rise(self):
        self.is_none(self.steps, 2, [[(2, 1), (1, 1)], [(0, 2)], [(1, 2)]])
        self.is_none(self.steps, 2, [[(1, 1), (2, 1)], [(0, 1), (0, 1)], [(1, 2)]])
        self.is_none(self.steps, 4, [[(1, 1), (1, 2), (2, 1)], [(0, 2)]])

    def test_many_of_nought_and_below(self):
        self.is_none(self.steps, 2, self.beats + [[(1, 0)]])
        self.is_none(self.steps, 2, [[(1, 1), (2, 1)], [(0, 2)], [(1, 2)], [(0, 0), (1, 0)]])
        self.is_none(self.steps, 3, [[(1, 1), (2, 1)], [(0, 3)], [(0, -1), (1, 2)]])

    def test_a_step_short_or_too_wide(self):
        for thing in [[], [[]], self.beats[:2], self.beats[1:], [[(1, 1), (2, 1)], [(0, 1)], [(1, 2)]], [[(2, 1)], [(0, 2)], [(1, 2)]],
                      self.beats + [[(1, 1)]], self.beats + [[(0, 1)]], [[(2, 1)]] + self.beats, [[(1, 1), (2, 1)], [(0, 2)], [(1, 1)]]]:
            self.is_none(self.steps, 2, thing)

    def test_with_or_ahead_of_one_that_it_waits_for(self):
        self.is_none(self.steps, 3, [[(0, 2), (2, 1)], [(1, 3)]])
        self.is_none(self.steps, 3, [[(0, 1)], [(2, 1)], [(0, 1)], [(1, 3)]])
        self.is_none(self.steps, 3, [[(0, 2)], [(2, 1)], [(1, 3)]])
        steps = steps_of((1, [1]), (3, []))
        self.is_none(steps, 2, [[(1, 2)], [(0, 1), (1, 1)]])
        self.is_one(steps, 2, [[(1, 2)], [(1, 1)], [(0, 1)]])
        # All of them must be ended, not the first one alone.
        steps = steps_of((1, [1, 2]), (1, []), (1, []))
        self.is_none(steps, 2, [[(1, 1)], [(0, 1), (2, 1)]])
        self.is_none(steps, 2, [[(2, 1)], [(0, 1), (1, 1)]])
        self.is_one(steps, 2, [[(2, 1)], [(1, 1)], [(0, 1)]])

    def test_numbers_that_no_step_has(self):
        self.is_none(self.steps, 20, self.beats + [[(3, 1)]])
        self.is_none(self.steps, 20, self.beats + [[(-1, 1)]])
        self.is_none(self.steps, 20, [[(-1, 1), (1, 1)], [(0, 2)], [(1, 2)]])
        self.is_none([], 20, [[(0, 1)]])
        self.is_none(self.steps, 20, self.beats + [[(10 ** 59, 1)]])

    def test_truths_tuples_lists_and_texts(self):
        for thing in [
            [[(True, 1), (2, 1)], [(0, 2)], [(1, 2)]], [[(1, True), (2, 1)], [(0, 2)], [(1, 2)]], [[(1, 1), (2, 1)], [(False, 2)], [(1, 2)]],
            [[[1, 1], (2, 1)], [(0, 2)], [(1, 2)]], [((1, 1), (2, 1)), [(0, 2)], [(1, 2)]], tuple(self.beats), [[(1, 1, 1), (2, 1)], [(0, 2)], [(1, 2)]],
            [[(1,), (2, 1)], [(0, 2)], [(1, 2)]], [[("1", 1), (2, 1)], [(0, 2)], [(1, 2)]], [[(1, "1"), (2, 1)], [(0, 2)], [(1, 2)]],
            [[(1, None), (2, 1)], [(0, 2)], [(1, 2)]], self.beats + [None], self.beats + [()], self.beats + [""], self.beats + [[()]], self.beats + [[None]],
        ]:
            self.is_none(self.steps, 2, thing)

    def test_any_other_thing(self):
        for thing in odd_things():
            self.is_none(self.steps, 2, thing)
            self.is_none(self.steps, 2, self.beats + [[thing]])
            if thing != []:
                self.is_none(self.steps, 2, self.beats + [thing])
                self.is_none([], 2, thing)

    def test_told_ones_a_little_changed(self):
        chance = random.Random(5)
        for seed in range(150):
            steps = some_steps(seed)
            hands = chance.choice([1, 2, 3, 5])
            beats = timetable(steps, hands)
            if len(beats) < 2:
                continue
            one, other = chance.sample(range(len(beats)), 2)
            thing = list(beats)
            thing[one], thing[other] = thing[other], thing[one]
            self.assertIs(is_timetable(steps, hands, thing), self.by_words(steps, thing), (steps, hands, thing))
            self.is_none(steps, hands, beats[:one] + beats[one + 1:])

    def by_words(self, steps, beats):
        """Whether beats, each of which is one by itself, are in an order in which each step is behind what it waits for."""
        spans = {}
        for at, beat in enumerate(beats):
            for number, _ in beat:
                spans.setdefault(number, []).append(at)
        return all(min(spans[number]) > max(spans[one]) for number, step in enumerate(steps) for one in step[3])


class Shown(unittest.TestCase):
    def test_by_width(self):
        self.assertEqual(unchanged(shown, steps_of((5, []), (4, [])), 2), ("width", 5))
        self.assertEqual(unchanged(shown, steps_of((5, []), (3, [])), 2), ("width", 4))
        self.assertEqual(unchanged(shown, steps_of((5, [1]), (4, [])), 4), ("width", 3))

    def test_by_chain(self):
        self.assertEqual(unchanged(shown, steps_of((1, [1]), (1, [2]), (1, [])), 2), ("chain", [2, 1, 0]))
        self.assertEqual(unchanged(shown, steps_of((1, []), (1, []), (1, [0]), (1, [2]), (1, [1])), 20), ("chain", [0, 2, 3]))

    def test_where_both_tell_the_same(self):
        self.assertEqual(unchanged(shown, steps_of((1, [1]), (2, [])), 2), ("width", 2))
        self.assertEqual(unchanged(shown, steps_of((1, [])), 20), ("width", 1))
        self.assertEqual(unchanged(shown, steps_of((1, [1]), (1, [])), 1), ("width", 2))

    def test_of_no_steps(self):
        for hands in (1, 2, 20):
            self.assertEqual(unchanged(shown, [], hands), ("width", 0))
            self.assertEqual(timetable([], hands), [])

    def test_the_one_that_tells_more(self):
        kinds = set()
        for seed in range(300):
            steps = some_steps(seed)
            for hands in (1, 2, 3, 5, 20):
                told = unchanged(shown, steps, hands)
                width, chain = -(-sum(step[2] for step in steps) // hands), longest(steps)
                self.assertEqual(unchanged(shows, steps, hands, told), max(width, chain))
                self.assertEqual(told[0], "chain" if chain > width else "width")
                kinds.add(told[0])
        self.assertEqual(kinds, {"width", "chain"})

    def test_a_chain_of_many_steps(self):
        steps = steps_of(*[(1, [number + 1]) for number in range(4999)], (1, []))
        self.assertEqual(shown(steps, 2), ("chain", list(reversed(range(5000)))))
        self.assertEqual(shows(steps, 2, shown(steps, 2)), 5000)
        self.assertEqual(len(timetable(steps, 2)), 5000)


class Shows(unittest.TestCase):
    def setUp(self):
        self.steps = steps_of((2, [1, 2]), (3, [3]), (1, []), (1, []))

    def test_widths(self):
        for hands, number in ((1, 7), (2, 4), (3, 3), (6, 2), (7, 1), (20, 1)):
            for other in range(-1, 10):
                told = unchanged(shows, self.steps, hands, ("width", other))
                self.assertEqual(repr(told), repr(number if other == number else None), (hands, other))
        for thing in [("width", True), ("width", "1"), ("width", None), ("width", [1]), ("width", (1,)), ("width",), ("width", 1, 1), ["width", 1], ("chain", 1)]:
            self.assertIsNone(unchanged(shows, self.steps, 7, thing), thing)
        self.assertEqual(repr(shows([], 7, ("width", 0))), "0")
        self.assertIsNone(shows([], 7, ("width", False)))

    def test_chains(self):
        for row in [[], [0], [1], [2], [3], [1, 0], [2, 0], [3, 1], [3, 1, 0]]:
            self.assertEqual(repr(unchanged(shows, self.steps, 3, ("chain", row))), repr(len(row)), row)
        for row in [[0, 0], [0, 1], [1, 2], [2, 1], [3, 0], [1, 3], [3, 1, 0, 0], [0, 1, 3], [3, 1, 2], [4], [-1], [3, 4], [3, -3], [True], [1, False], [3, True, 0], [3, 1, False],
                    (), (1, 0), None, "", [None], ["1"], [[1]], [(1,)], 1, [10 ** 59], [-2, 0]]:
            self.assertIsNone(unchanged(shows, self.steps, 3, ("chain", row)), row)
        self.assertEqual(repr(shows([], 3, ("chain", []))), "0")
        self.assertIsNone(shows([], 3, ("chain", [0])))

    def test_any_other_thing(self):
        for thing in odd_things():
            self.assertIsNone(unchanged(shows, self.steps, 3, thing), thing)
            self.assertIsNone(unchanged(shows, self.steps, 3, ("width", thing)), thing)
            self.assertIsNone(unchanged(shows, self.steps, 3, (thing, 3)), thing)
            self.assertIsNone(unchanged(shows, self.steps, 3, (thing, [])), thing)
            if thing != []:
                self.assertIsNone(unchanged(shows, self.steps, 3, ("chain", thing)), thing)
        for thing in [("Width", 3), ("chain", [1, 0], None), ["chain", [1, 0]], ("chain",), ("width ", 3), ([], []), ("chain ", [])]:
            self.assertIsNone(unchanged(shows, self.steps, 3, thing), thing)


if __name__ == "__main__":
    unittest.main()
