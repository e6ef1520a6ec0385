import unittest

from broadrow.flats import flat_of
from broadrow.kinding import kinds_of
from broadrow.ledgers import ledger
from broadrow.plain import read
from broadrow.programs import read_program
from broadrow.taking import kept, spread
from broadrow.trees import free_names
from broadrow.widths import brought_names, if_width_of_all, turns_width_of_all, width_of_all
from helper import NUM, TRUTH, row

NUMS = row(NUM)


def width_by_ledgers(program, things):
    """The widths of the whole piece for all these things, each by itself."""
    told = [one for worths in things for one in ledger(program, worths) if one[0] == ()]
    return sum(one[3] for one in told)


def flats_of(program, things):
    return {head: flat_of(kind, [worths[at] for worths in things]) for at, (head, kind) in enumerate(program[0])}


class Widths(unittest.TestCase):
    def test_of_single_signs(self):
        for text, *things in [
            ("a truth : not a", [True], [False]), ("a row num : one a", [[1, 2]], [[]]), ("a row num : long a", [[1, 2]], [[]]),
            ("a num : upto a", [0], [5], [1]), ("a row num : sum a", [[1, 2]], [[]], [[3]]), ("a row num : sums a", [[1, 2]], [[]]),
            ("a row num : most a", [[1, 2]], [[5]]), ("a row row num : flat a", [[[1, 2, 3], []]], [[]], [[[4]]]),
            ("a num b num : add a b", [1, 2], [3, 4]), ("a row num b row num : pair a b", [[1], [2]], [[], []]),
            ("a row row num b num : pick a b", [[[1, 2], []], 0], [[[1, 2], []], 1]), ("a row num b num : pick a b", [[7], 0]),
            ("a row pair num truth b row pair num truth : join a b", [[(1, True)], [(2, False)]], [[], []]),
            ("a row row num b row truth : keep a b", [[[1], [2, 3]], [True, False]], [[[1], [2, 3]], [False, True]], [[], []]),
            ("a row num b row num : cut a b", [[1, 2, 3], [1, 2]], [[], [0, 0, 0]], [[], []]),
        ]:
            program = read_program(text)
            flats, kind = flats_of(program, things), kinds_of(program)[-1][1]
            flat = flat_of(kind, [read(program, worths)[1] for worths in things])
            told = width_of_all(program[1][0], [flats[head] for head in "ab" if head in flats], kind, flat, len(things))
            self.assertEqual(told, width_by_ledgers(program, things), text)

    def test_of_leaves(self):
        for sign, kind, flat in [("num", NUM, [7, 7]), ("yes", TRUTH, [True] * 2), ("no", TRUTH, [False] * 2), ("none", NUMS, ([0, 0], []))]:
            self.assertEqual(width_of_all(sign, [], kind, flat, 2), 2)

    def test_of_if(self):
        program = read_program("t truth r row num s row num : if t join r s r")
        things = [[True, [1], [2, 3]], [False, [4, 5], [6]], [True, [], []], [False, [], [7]]]
        flats, truths = flats_of(program, things), [worths[0] for worths in things]
        others = [not truth for truth in truths]
        brought = [(NUMS, kept(NUMS, flats["r"], truths)), (NUMS, kept(NUMS, flats["s"], truths)), (NUMS, kept(NUMS, flats["r"], others))]
        flat = flat_of(NUMS, [read(program, worths)[1] for worths in things])
        self.assertEqual(if_width_of_all(brought, NUMS, flat, 4), width_by_ledgers(program, things))
        self.assertEqual(if_width_of_all([], NUM, [1, 2], 2), 4)

    def test_of_each(self):
        program = read_program("r row num s row num n num : each x r add x add n sum s")
        things = [[[1, 2], [3], 4], [[], [5, 6], 7], [[8], [], 9]]
        flats = flats_of(program, things)
        lengths = flats["r"][0]
        brought = [(NUM, spread(NUM, flats["n"], lengths)), (NUMS, spread(NUMS, flats["s"], lengths))]
        self.assertEqual(turns_width_of_all([(sum(lengths), brought)], 3), width_by_ledgers(program, things))
        self.assertEqual(turns_width_of_all([(0, [(NUMS, ([], []))])], 3), 3)

    def test_of_times(self):
        program = read_program("n num s row num : times x n 0 add x sum s")
        things = [[2, [1, 2]], [0, [3]], [3, []]]
        flats = flats_of(program, things)
        frames = []
        for turn in range(3):
            still = [worths[0] > turn for worths in things]
            frames.append((sum(still), [(NUMS, kept(NUMS, flats["s"], still))]))
        self.assertEqual(turns_width_of_all(frames, 3), width_by_ledgers(program, things))
        self.assertEqual(turns_width_of_all([], 3), 3)

    def test_brought_names(self):
        tree = read_program("a num b truth c row num : times x a b less a add long c let y 1 if x y 2")[1]
        self.assertEqual(brought_names(tree, 2), ["a", "c"])
        self.assertEqual(free_names(tree[4]), ["a", "c", "x"])
        self.assertEqual(brought_names(tree, 1), ["b"])
        tree = read_program("r row num : let s r each x s join one x if yes r s")[1]
        self.assertEqual(brought_names(tree[3], 1), ["r", "s"])
        self.assertEqual(brought_names(tree[3][3][2], 1), ["r"])
        self.assertEqual(brought_names(tree[3][3][2], 2), ["s"])
        self.assertEqual(brought_names(("each", "x", ("name", "x"), ("name", "x")), 0), ["x"])


if __name__ == "__main__":
    unittest.main()
