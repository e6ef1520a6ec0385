import unittest

from broadrow.kinding import kinds_of
from broadrow.plain import read
from broadrow.programs import is_program, program_text, read_program
from broadrow.trees import part_at, places
from broadrow.worths import is_worth
from helper import GREAT, Maker, around, lists_in, no_list_twice, unchanged

G = str(GREAT)
WORDS = ("great", "nought", "beyond", "empty", "far", "unlike")


def say(text, *worths):
    """What is read of a program's words; it is seen, too, that it has kinds and that nothing is changed."""
    program = read_program(text)
    kinds_of(program)
    return unchanged(read, program, list(worths))


class Readings(unittest.TestCase):
    def comes_to(self, text, worth, *worths):
        # By their words, since to Python True and 1 are one.
        self.assertEqual(repr(say(text, *worths)), repr(("is", worth)), text)

    def stops(self, text, word, place=(), turns=(), worths=()):
        self.assertEqual(say(text, *worths), ("stops", word, place, turns), text)


class Worths(Readings):
    def test_signs_of_no_parts(self):
        self.comes_to(": 0", 0)
        self.comes_to(": " + G, GREAT)
        self.comes_to(": yes", True)
        self.comes_to(": no", False)
        self.comes_to(": none row num", [])
        self.comes_to("n num r row truth : r", [True, False], 5, [True, False])

    def test_signs_of_one_part(self):
        self.comes_to(": not yes", False)
        self.comes_to(": not no", True)
        self.comes_to("p pair num truth : first p", 3, (3, True))
        self.comes_to("p pair num truth : second p", True, (3, True))
        self.comes_to(": one 4", [4])
        self.comes_to(": one none num", [[]])
        self.comes_to(": upto 0", [])
        self.comes_to(": upto 3", [0, 1, 2])
        self.comes_to(": upto 200", list(range(200)))
        self.comes_to("r row row num : long r", 2, [[1, 2, 3], []])
        self.comes_to(": long none truth", 0)
        self.comes_to("r row num : sum r", 4, [3, -1, 2])
        self.comes_to(": sum none num", 0)
        self.comes_to("r row num : sums r", [0, 3, 2], [3, -1, 2])
        self.comes_to(": sums none num", [])
        self.comes_to("r row num : most r", 7, [-3, 7, 7, 0])
        self.comes_to("r row num : most r", -2, [-3, -2])
        self.comes_to("r row row num : flat r", [1, 2, 3], [[1], [], [2, 3]])
        self.comes_to("r row row num : flat r", [], [])
        self.comes_to("r row row row num : flat r", [[1], [], [2]], [[[1], []], [], [[2]]])

    def test_numbers(self):
        for sign, one, other, worth in [
            ("add", 2, 3, 5), ("add", GREAT, -1, GREAT - 1), ("sub", 2, 3, -1), ("mul", -4, 3, -12), ("div", 7, 2, 3), ("div", -7, 2, -4),
            ("div", 7, -2, -4), ("div", -7, -2, 3), ("rest", 7, 2, 1), ("rest", -7, 2, 1), ("rest", 7, -2, -1), ("rest", -7, -2, -1),
            ("rest", 6, 3, 0), ("div", 0, 5, 0), ("div", -GREAT, -1, GREAT), ("div", GREAT, 1, GREAT), ("rest", -1, GREAT, GREAT - 1),
            ("less", 1, 2, True), ("less", 2, 2, False), ("less", 3, 2, False), ("same", 2, 2, True), ("same", 2, 3, False),
        ]:
            self.comes_to("a num b num : " + sign + " a b", worth, one, other)

    def test_truths(self):
        for one in (True, False):
            for other in (True, False):
                self.comes_to("a truth b truth : both a b", one and other, one, other)
                self.comes_to("a truth b truth : same a b", one == other, one, other)

    def test_pairs_and_rows(self):
        self.comes_to(": pair 1 yes", (1, True))
        self.comes_to(": pair pair 1 2 none num", ((1, 2), []))
        self.comes_to("r row truth : pick r 0", True, [True, False])
        self.comes_to("r row truth : pick r 1", False, [True, False])
        self.comes_to("r row num s row num : join r s", [1, 2, 3], [1, 2], [3])
        self.comes_to("r row num s row num : join r s", [], [], [])
        self.comes_to("r row num k row truth : keep r k", [1, 3], [1, 2, 3], [True, False, True])
        self.comes_to("r row num k row truth : keep r k", [], [], [])
        self.comes_to("r row num k row num : cut r k", [[1], [], [2, 3]], [1, 2, 3], [1, 0, 2])
        self.comes_to("r row num k row num : cut r k", [], [], [])
        self.comes_to("r row num k row num : cut r k", [[], []], [], [0, 0])
        self.comes_to("r row num k row num : cut r k", [[]] * 199 + [[7]], [7], [0] * 199 + [1])

    def test_let_and_if(self):
        self.comes_to(": let x 2 add x x", 4)
        self.comes_to(": let x let x 1 add x 1 mul x 5", 10)
        self.comes_to(": add let x 1 x let x 2 x", 3)
        self.comes_to(": if yes 1 2", 1)
        self.comes_to(": if no 1 2", 2)
        self.comes_to(": if yes 1 div 1 0", 1)
        self.comes_to(": if no div 1 0 2", 2)

    def test_each(self):
        self.comes_to("r row num n num : each x r add x n", [6, 7, 8], [1, 2, 3], 5)
        self.comes_to("r row num : each x r 1", [], [])
        self.comes_to(": each x none num div 1 0", [])
        self.comes_to(": each x upto 3 each y upto x add x y", [[], [1], [2, 3]])
        self.comes_to("r row pair num truth : each x r if second x first x 0", [1, 0], [(1, True), (2, False)])
        self.comes_to(": each x upto 200 x", list(range(200)))

    def test_times(self):
        self.comes_to(": times x 5 1 mul x 2", 32)
        self.comes_to(": times x 0 1 div x 0", 1)
        self.comes_to(": times x 1 7 8", 8)
        self.comes_to(": times x 60 0 add x 1", 60)
        self.comes_to(": times x 59 yes not x", False)
        self.comes_to("n num : times p n pair 0 1 pair second p add first p second p", (55, 89), 10)
        self.comes_to(": times x times x 2 0 add x 1 times x 3 0 add x 1 add x 1", 5)

    def test_most_heads(self):
        self.comes_to("a num b truth c row num d pair num num e row row num f num : pair add a f pair b pair c d", (7, (True, ([2], (3, 4)))),
                      1, True, [2], (3, 4), [[5]], 6)


class Stops(Readings):
    def test_great(self):
        for sign, one, other in [("add", GREAT, 1), ("add", -GREAT, -1), ("sub", -GREAT, 1), ("sub", GREAT, -1), ("mul", GREAT, 2), ("mul", -GREAT, 2),
                                 ("mul", 10 ** 9 + 1, 10 ** 9), ("mul", GREAT, -GREAT), ("add", GREAT, GREAT)]:
            self.stops("a num b num : " + sign + " a b", "great", worths=(one, other))
        for sign, one, other, worth in [("add", GREAT - 1, 1, GREAT), ("sub", 1 - GREAT, 1, -GREAT), ("mul", 10 ** 9, 10 ** 9, GREAT), ("mul", GREAT, -1, -GREAT),
                                        ("add", -GREAT, 0, -GREAT), ("mul", -10 ** 9, 10 ** 9, -GREAT)]:
            self.comes_to("a num b num : " + sign + " a b", worth, one, other)

    def test_great_of_sum_and_sums(self):
        for rising in ([GREAT, 1], [GREAT, 1, -1], [1, GREAT, -5, 3], [-GREAT, -1], [-GREAT, -1, 1], [0, GREAT, 0, 1]):
            self.stops("r row num : sum r", "great", worths=(rising,))
            self.stops("r row num : sums r", "great", worths=(rising,))
        for fine in ([GREAT], [GREAT, 0], [GREAT, -1, 1], [-GREAT], [GREAT, -GREAT, -GREAT], [-GREAT, GREAT, GREAT]):
            self.comes_to("r row num : sum r", sum(fine), fine)
            self.comes_to("r row num : sums r", [sum(fine[:at]) for at in range(len(fine))], fine)

    def test_nought(self):
        for sign in ("div", "rest"):
            for one in (0, 1, -GREAT):
                self.stops("a num : " + sign + " a 0", "nought", worths=(one,))
            self.comes_to("a num : " + sign + " 0 a", 0, -1)

    def test_beyond(self):
        for row, number in [([], 0), ([5], 1), ([5], -1), ([5, 6], 2), ([5, 6], -2), ([5], GREAT), ([0] * 200, 200), ([], -1)]:
            self.stops("r row num n num : pick r n", "beyond", worths=(row, number))
        self.comes_to("r row num : pick r 199", 8, [0] * 199 + [8])

    def test_empty(self):
        self.stops(": most none num", "empty")
        self.stops("r row num : most r", "empty", worths=([],))
        self.comes_to("r row num : most r", -GREAT, [-GREAT])

    def test_far_of_upto(self):
        for number in (-1, 201, -GREAT, GREAT):
            self.stops("n num : upto n", "far", worths=(number,))
        for number in (0, 1, 199, 200):
            self.comes_to("n num : upto n", list(range(number)), number)

    def test_far_of_times(self):
        for number in (-1, 61, -GREAT, GREAT):
            self.stops("n num : times x n 0 add x 1", "far", worths=(number,))
        for number in (0, 1, 59, 60):
            self.comes_to("n num : times x n 0 add x 1", number, number)
        self.stops(": times x 61 div 1 0 x", "nought", (1,))
        self.stops(": times x div 1 0 upto 201 x", "nought", (0,))
        self.stops(": times x 61 0 div x 0", "far")

    def test_far_of_join_and_flat(self):
        for one, other in [(200, 0), (0, 200), (100, 100), (199, 1)]:
            self.comes_to("r row num s row num : join r s", [1] * one + [2] * other, [1] * one, [2] * other)
            self.comes_to("r row row num : flat r", [1] * one + [2] * other, [[1] * one, [], [2] * other])
        for one, other in [(200, 1), (1, 200), (100, 101), (200, 200)]:
            self.stops("r row num s row num : join r s", "far", worths=([1] * one, [2] * other))
            self.stops("r row row num : flat r", "far", worths=([[1] * one, [], [2] * other],))
        self.comes_to("r row row row num : flat r", [[0] * 150] * 2, [[[0] * 150], [[0] * 150]])

    def test_unlike_of_keep(self):
        for row, truths in [([], [True]), ([1], []), ([1, 2], [False]), ([1], [False, False])]:
            self.stops("r row num k row truth : keep r k", "unlike", worths=(row, truths))

    def test_unlike_of_cut(self):
        for row, lengths in [([], [1]), ([1], []), ([1, 2], [1]), ([1, 2], [1, 2]), ([1, 2], [3, -1]), ([1], [-1, 2]), ([], [-1, 1]), ([], [-1]),
                             ([1, 2, 3], [2]), ([1, 2, 3], [4]), ([1], [GREAT]), ([], [GREAT, -GREAT]), ([1], [1, GREAT])]:
            self.stops("r row num k row num : cut r k", "unlike", worths=(row, lengths))

    def test_the_first_of_several_in_the_order_of_doing(self):
        self.stops(": add div 1 0 most none num", "nought", (0,))
        self.stops(": add most none num div 1 0", "empty", (0,))
        self.stops(": div most none num 0", "empty", (0,))
        self.stops(": div 1 div 1 0", "nought", (1,))
        self.stops(": let x div 1 0 upto 201", "nought", (0,))
        self.stops(": let x 0 upto div 5 x", "nought", (1, 0))
        self.stops(": if same 1 div 1 0 upto 201 upto 202", "nought", (0, 1))
        self.stops(": if yes upto 201 upto pick none num 0", "far", (1,))
        self.stops(": if no upto 201 upto pick none num 0", "beyond", (2, 0))
        self.stops(": each x upto 201 div x 0", "far", (0,))
        self.stops(": both no less div 1 0 1", "nought", (1, 0))
        self.stops(": both less 1 most none num less div 1 0 1", "empty", (0, 1))

    def test_a_stop_within_one_each(self):
        self.stops("r row num : each x r div 6 x", "nought", (1,), (2,), worths=([3, 2, 0, 1, 0],))
        self.stops("r row num : each x r let y sub x 5 div x y", "nought", (1, 1), (1,), worths=([1, 5, 5],))
        self.stops("r row num : sum each x r div 6 x", "nought", (0, 1), (0,), worths=([0],))
        self.stops("r row num : each x each y r sub y 1 div 1 x", "nought", (1,), (1,), worths=([5, 1],))
        self.stops("r row num : each x each y r div 1 y x", "nought", (0, 1), (1,), worths=([5, 0],))

    def test_a_stop_within_one_times(self):
        self.stops(": times x 5 3 add sub x 1 div 0 x", "nought", (2, 1), (3,))
        self.stops(": times x 60 1 mul x 10", "great", (2,), (18,))
        self.stops(": times x 3 div 1 0 x", "nought", (1,), ())
        self.stops(": times x times y 3 1 div y 0 2 x", "nought", (0, 2), (0,))

    def test_stops_within_several(self):
        self.stops("r row row num : each x r each y x div 1 y", "nought", (1, 1), (2, 1), worths=([[1], [], [2, 0], [0]],))
        self.stops("r row num : each x r times y 3 x sub y div 1 y", "nought", (1, 2, 1), (1, 0), worths=([9, 0],))
        self.stops(": times x 3 2 sum each y upto 3 div sub x y sub x y", "nought", (2, 0, 1), (0, 2))
        self.stops(": each x upto 3 times y 2 0 times z 2 add y x div 4 sub 2 x", "nought", (1, 2, 2), (2, 0, 0))
        self.stops(": each x upto 4 each y upto 4 each z upto 4 div 1 sub 6 add x add y z", "nought", (1, 1, 1), (0, 3, 3))
        self.stops(": each x upto 4 each y upto sub 2 x upto sub 0 y", "far", (1, 1), (0, 1))
        self.stops(": each x upto 4 each y upto sub 2 x y", "far", (1, 0), (3,))
        self.stops(": each x upto 2 times y sub 60 mul x 61 0 y", "far", (1,), (1,))
        self.stops(": times x 2 0 times y 61 0 y", "far", (2,), (0,))
        self.stops(": each x upto 3 if less x 2 x div x 0", "nought", (1, 2), (2,))


class Whole(unittest.TestCase):
    def test_each_made_program_comes_to_a_worth_of_its_kind_or_stops_at_a_place(self):
        maker = Maker(12)
        seen = {}
        for _ in range(1500):
            program, worths = maker.program(6)
            self.assertIs(is_program(program), True)
            kind = kinds_of(program)[-1][1]
            told = unchanged(read, program, worths)
            self.assertEqual(repr(read(program, worths)), repr(told))
            if told[0] == "is":
                self.assertEqual(len(told), 2)
                self.assertIs(is_worth(kind, told[1]), True, program_text(program))
                seen["is"] = True
            else:
                _, word, place, turns = told
                self.assertEqual((told[0], len(told)), ("stops", 4))
                self.assertIn(word, WORDS)
                self.assertIn(place, places(program[1]))
                self.assertIsInstance(turns, tuple)
                self.assertEqual(len(turns), around(program[1], place))
                seen[word, part_at(program[1], place)[0]] = True
        self.assertGreater(len(seen), 12, "too few sorts of ends to tell anything")

    def test_a_long_reading(self):
        program = read_program(": sum each x upto 200 sum each y upto 200 add x y")
        self.assertEqual(read(program, []), ("is", 7960000))


class TheAskersOwn(unittest.TestCase):
    def check(self, text, *worths):
        program, given = read_program(text), list(worths)
        told, again = read(program, given), read(program, given)
        self.assertEqual(told, again)
        self.assertTrue(no_list_twice(told, again, given), text)
        before, after = repr(given), repr(again)
        for one in lists_in(told):
            one.append(99)
        self.assertEqual(repr(given), before)
        self.assertEqual(repr(read(program, given)), after)
        self.assertEqual(repr(again), after)
        for one in lists_in(given):
            one.append(98)
        self.assertEqual(repr(again), after)

    def test_no_list_told_is_handed_in_or_told_twice(self):
        rows = [[1, 2], [], [3]]
        for text in [
            "r row row num : r", "r row row num : pair r r", "r row row num : let x r pair x x", "r row row num : each x r x",
            "r row row num : each x r pair x x", "r row row num : pick r 0", "r row row num : join r r", "r row row num : one r",
            "r row row num : pair pick r 0 flat r", "r row row num : each x upto 3 pick r 0", "r row row num : if yes r r",
            "r row row num : times x 3 r x", "r row row num : first pair r 1", "r row row num : keep r each x r yes",
            "r row row num : cut r one 3", "r row row num : flat one r", "r row row num : each x upto 2 none num",
            "r row row num : each x upto 2 r", "r row row num : pair sums pick r 0 upto 2",
        ]:
            self.check(text, [list(one) for one in rows])

    def test_one_list_handed_in_twice(self):
        shared = [1, 2]
        program = read_program("r row row num s row num : pair r s")
        told = read(program, [[shared, shared], shared])
        self.assertEqual(told, ("is", ([[1, 2], [1, 2]], [1, 2])))
        self.assertTrue(no_list_twice(told, [shared]))


if __name__ == "__main__":
    unittest.main()
