import unittest

from broadrow.ledgers import ledger
from broadrow.plain import read
from broadrow.programs import program_text, read_program
from broadrow.trees import binding, free_names, parts, places
from broadrow.worths import size
from helper import GREAT, NUM, SIGNS, Maker, no_list_twice, unchanged


def ledger_of(text, *worths):
    return unchanged(ledger, read_program(text), list(worths))


class Meter:
    """Does a program once more, by single pieces read one by one, and writes down each meeting by itself."""

    def __init__(self, program, worths):
        self.met = []
        self.worth = self.do(program[1], (), dict(zip([head for head, _ in program[0]], worths)), ())

    def meet(self, place, rounds, width):
        self.met.append((place, rounds, width))

    def do(self, tree, place, names, rounds):
        sign = tree[0]
        if sign == "name":
            return names[tree[1]]
        if sign == "let":
            return self.do(tree[3], place + (1,), {**names, tree[1]: self.do(tree[2], place + (0,), names, rounds)}, rounds)
        if sign == "if":
            return self.do_if(tree, place, names, rounds)
        if sign == "each":
            return self.do_each(tree, place, names, rounds)
        if sign == "times":
            return self.do_times(tree, place, names, rounds)
        return self.do_single(tree, place, names, rounds)

    def do_single(self, tree, place, names, rounds):
        ins = [self.do(part, place + (at,), names, rounds) for at, part in enumerate(parts(tree))]
        heads = tuple([(head, NUM) for head in "ab"[:len(ins)]])
        piece = tree if not ins else (tree[0], *[("name", head) for head, _ in heads])
        told = read((heads, piece), ins)
        if told[0] == "stops":
            raise ArithmeticError(told[1])
        worth = told[1]
        self.meet(place, rounds, 1 + {
            "sum": lambda: len(ins[0]), "sums": lambda: len(ins[0]), "most": lambda: len(ins[0]), "upto": lambda: ins[0],
            "flat": lambda: len(ins[0]), "cut": lambda: len(ins[1]), "pick": lambda: size(worth),
            "join": lambda: size(ins[0]) + size(ins[1]) - 1, "keep": lambda: size(worth),
        }.get(tree[0], lambda: 0)())
        return worth

    def sizes(self, names, tree, bound):
        return sum(size(names[one]) for one in free_names(tree) if one != bound)

    def do_if(self, tree, place, names, rounds):
        arm = 2 if self.do(tree[1], place + (0,), names, rounds) else 3
        worth = self.do(tree[arm], place + (arm - 1,), names, rounds)
        self.meet(place, rounds, 1 + self.sizes(names, tree[arm], None) + size(worth))
        return worth

    def do_each(self, tree, place, names, rounds):
        things = self.do(tree[2], place + (0,), names, rounds)
        worth = [self.do(tree[3], place + (1,), {**names, tree[1]: thing}, rounds) for thing in things]
        self.meet(place, rounds, 1 + sum(1 + self.sizes(names, tree[3], tree[1]) for _ in things))
        return worth

    def do_times(self, tree, place, names, rounds):
        many = self.do(tree[2], place + (0,), names, rounds)
        worth = self.do(tree[3], place + (1,), names, rounds)
        if not 0 <= many <= 60:
            raise ArithmeticError("far")
        for turn in range(many):
            worth = self.do(tree[4], place + (2,), {**names, tree[1]: worth}, rounds + (turn,))
        self.meet(place, rounds, 1 + sum(1 + self.sizes(names, tree[4], tree[1]) for _ in range(many)))
        return worth


def metered(program, worths):
    """The ledger by a Meter."""
    try:
        met = Meter(program, worths).met
    except ArithmeticError:
        return None
    told = []
    for place, rounds in sorted({one[:2] for one in met}):
        widths = [one[2] for one in met if one[:2] == (place, rounds)]
        told.append((place, rounds, len(widths), sum(widths)))
    return told


class Ledgers(unittest.TestCase):
    def is_wide(self, text, width, *worths):
        """Whether the whole piece is met once and so wide."""
        told = ledger_of(text, *worths)
        self.assertEqual([one for one in told if one[0] == ()], [((), (), 1, width)], text)

    def at(self, text, place, *worths):
        """What the ledger tells of a place."""
        return [one[1:] for one in ledger_of(text, *worths) if one[0] == place]

    def tells(self, text, told, *worths):
        self.assertEqual(repr(ledger_of(text, *worths)), repr(told), text)


class WidthsOfOnePiece(Ledgers):
    def test_each_sign_done_once(self):
        seen = {"name", "let"}
        for text, width, *worths in [
            (": 7", 1), (": yes", 1), (": no", 1), (": none row num", 1),
            ("a truth : not a", 1, True), ("a pair num row num : first a", 1, (1, [2, 3])),
            ("a pair num row num : second a", 1, (1, [2, 3])), ("a row num : one a", 1, [1, 2, 3]),
            ("a num : upto a", 4, 3), ("a row row num : long a", 1, [[1, 2], []]),
            ("a row num : sum a", 4, [1, 2, 3]), ("a row num : sums a", 4, [1, 2, 3]), ("a row num : most a", 4, [1, 2, 3]),
            ("a row row num : flat a", 3, [[1, 2, 3], [4]]),
            ("a num b num : add a b", 1, 1, 2), ("a num b num : sub a b", 1, 1, 2), ("a num b num : mul a b", 1, 1, 2),
            ("a num b num : div a b", 1, 1, 2), ("a num b num : rest a b", 1, 1, 2), ("a num b num : less a b", 1, 1, 2),
            ("a num b num : same a b", 1, 1, 2), ("a truth b truth : same a b", 1, True, False),
            ("a truth b truth : both a b", 1, True, False), ("a row num b row num : pair a b", 1, [1, 2], [3]),
            ("a row row num b num : pick a b", 4, [[1], [2, 3]], 1),
            ("a row num b row num : join a b", 5, [1, 2], [3]),
            ("a row num b row truth : keep a b", 4, [1, 2, 3], [True, False, True]),
            ("a row num b row num : cut a b", 3, [1, 2, 3, 4], [1, 3]),
            ("a truth b num c num : if a b c", 3, True, 5, 6), ("a row num b num : each x a b", 5, [1, 2], 7),
            ("a num b num c num : times x a b c", 5, 2, 5, 6),
        ]:
            self.tells(text, [((), (), 1, width)], *worths)
            seen.add(read_program(text)[1][0])
        self.assertEqual(seen, set(SIGNS))

    def test_names_and_lets_are_no_meetings(self):
        self.tells("a row num : a", [], [1, 2])
        self.tells("a row num : let x a x", [], [1, 2])
        self.tells("a row num : let x let y a y let z x z", [], [1, 2])
        self.tells(": let x 5 x", [((0,), (), 1, 1)])
        self.tells(": let x 5 add x x", [((0,), (), 1, 1), ((1,), (), 1, 1)])

    def test_rows_of_none_one_and_several(self):
        for row in ([], [5], [5, -6], list(range(200))):
            for sign in ("sum", "sums", "most"):
                if row or sign != "most":
                    self.is_wide("a row num : " + sign + " a", 1 + len(row), row)
            self.is_wide("a num : upto a", 1 + len(row), len(row))
        self.assertIsNone(ledger_of("a row num : most a", []))

    def test_flat_by_its_outer_row(self):
        for rows in ([], [[]], [[], [], []], [[1, 2, 3]], [[1], [], [2, 3, 4]], [[0] * 100, [0] * 100]):
            self.is_wide("a row row num : flat a", 1 + len(rows), rows)
        self.is_wide("a row row row num : flat a", 3, [[[1, 2], [3]], [[4]]])

    def test_cut_by_its_lengths(self):
        for row, lengths in [([], []), ([], [0]), ([], [0, 0, 0]), ([1, 2, 3], [3]), ([1, 2, 3], [1, 0, 2]), ([1] * 200, [1] * 200)]:
            self.is_wide("a row num b row num : cut a b", 1 + len(lengths), row, lengths)

    def test_pick_by_the_size_of_what_it_comes_to(self):
        self.is_wide("a row num : pick a 0", 2, [7, 8, 9])
        self.is_wide("a row truth : pick a 1", 2, [True, False])
        self.is_wide("a row row num : pick a 0", 2, [[], [1]])
        self.is_wide("a row row num : pick a 1", 5, [[], [1, 2, 3]])
        self.is_wide("a row pair num row truth : pick a 0", 5, [(1, [True, False])])
        self.is_wide("a row row row num : pick a 0", 7, [[[1, 2], [3]]])

    def test_join_by_the_size_of_what_it_comes_to(self):
        self.is_wide("a row num b row num : join a b", 2, [], [])
        self.is_wide("a row num b row num : join a b", 3, [1], [])
        self.is_wide("a row num b row num : join a b", 202, [1] * 120, [2] * 80)
        self.is_wide("a row row num b row row num : join a b", 8, [[1, 2]], [[], [3]])
        self.is_wide("a row pair num num b row pair num num : join a b", 6, [(1, 2)], [(3, 4)])

    def test_keep_by_the_size_of_what_it_comes_to(self):
        self.is_wide("a row num b row truth : keep a b", 2, [], [])
        self.is_wide("a row num b row truth : keep a b", 2, [1, 2], [False, False])
        self.is_wide("a row num b row truth : keep a b", 4, [1, 2], [True, True])
        self.is_wide("a row row num b row truth : keep a b", 5, [[1, 2], [3, 4, 5]], [True, False])


class WidthsOfPiecesThatBring(Ledgers):
    def test_if_by_the_arm_that_is_done(self):
        text = "t truth r row num n num : if t sum r n"
        self.is_wide(text, 1 + 4 + 1, True, [1, 2, 3], 9)
        self.is_wide(text, 1 + 1 + 1, False, [1, 2, 3], 9)
        self.is_wide("t truth : if t 1 2", 2, True)
        self.is_wide("t truth r row num : if t r none num", 1 + 3 + 3, True, [1, 2])
        self.is_wide("t truth r row num : if t r none num", 2, False, [1, 2])
        self.is_wide("t truth r row num : if t pair r 1 pair none num 2", 1 + 3 + 4, True, [1, 2])

    def test_if_with_each_name_once_and_no_bound_one(self):
        self.is_wide("r row num : if yes join r join r r none num", 1 + 3 + 7, [1, 2])
        self.is_wide("r row num n num : if yes let x r join x each y r add y n none num", 1 + 3 + 1 + 5, [1, 2], 1)
        self.assertEqual(self.at("r row num : let s join r r if less sum s 99 long s long r", (1,), [1, 2]), [((), 1, 1 + 5 + 1)])
        self.assertEqual(self.at("r row num : let s join r r if less 99 sum s long s long r", (1,), [1, 2]), [((), 1, 1 + 3 + 1)])
        self.is_wide("t truth : if t t t", 3, True)
        self.is_wide("t truth r row num : if both t less 0 long r 1 2", 2, True, [5])

    def test_each_by_its_things_and_what_is_brought(self):
        for row in ([], [1], [1, 2, 3], [0] * 200):
            many = len(row)
            self.is_wide("r row num : each x r x", 1 + many, row)
            self.is_wide("r row num : each x r 5", 1 + many, row)
            self.is_wide("r row num n num : each x r add x n", 1 + 2 * many, row, 4)
            self.is_wide("r row num s row num : each x r add x add sum s long s", 1 + 4 * many, row, [8, 9])
            self.is_wide("r row num s row num n num : each x r add n add sum s long s", 1 + 5 * many, row, [8, 9], 0)
        self.is_wide("r row row num : each x r add sum x long r", 1 + 2 * (1 + 1 + 3 + 1), [[1, 2], []])
        self.is_wide("r row num : each x r let y x let z r long z", 1 + 2 * (1 + 3), [5, 6])

    def test_times_by_its_turns_and_what_is_brought(self):
        for many in (0, 1, 2, 60):
            self.is_wide("n num : times x n 0 x", 1 + many, many)
            self.is_wide("n num : times x n 0 add x 1", 1 + many, many)
            self.is_wide("n num : times x n 0 add x n", 1 + 2 * many, many)
            self.is_wide("n num r row num : times x n 0 add n add x sum r", 1 + many * (1 + 1 + 3), many, [5, 6])
        self.is_wide("r row num : times x 3 none num join x r", 1 + 3 * (1 + 3), [5, 6])
        self.is_wide("r row num : times x 2 r r", 1 + 2 * (1 + 3), [5, 6])


class Met(Ledgers):
    def test_within_an_each(self):
        self.tells("r row num : each x r add x 1", [((), (), 1, 4), ((1,), (), 3, 3), ((1, 1), (), 3, 3)], [1, 2, 3])
        self.assertEqual(self.at("r row row num : each x r sum x", (1,), [[1, 2], [], [3]]), [((), 3, 3 + 3)])

    def test_within_eaches_within_one_another(self):
        self.assertEqual(self.at(": each x upto 3 each y upto x add x y", (1, 1)), [((), 3, 3)])
        self.assertEqual(self.at(": each x upto 3 each y upto x add x y", (1,)), [((), 3, 3 + 3 * 2)])
        self.assertEqual(self.at(": each x upto 3 each y upto x add x y", (1, 0)), [((), 3, 3 + 3)])
        self.assertEqual(self.at("r row row row num : each x r each y x each z y 5", (1, 1, 1), [[[1, 2], []], [], [[3]]]), [((), 3, 3)])
        self.assertEqual(self.at("r row row row num : each x r each y x each z y 5", (1, 1), [[[1, 2], []], [], [[3]]]), [((), 3, 6)])

    def test_within_an_each_of_no_things(self):
        self.tells(": each x none num div 1 0", [((), (), 1, 1), ((0,), (), 1, 1)])
        self.tells("r row row num : each x r each y x add y 1", [((), (), 1, 3), ((1,), (), 2, 2)], [[], []])
        self.tells("r row row num : each x r each y x add y 1", [((), (), 1, 1)], [])

    def test_an_arm_that_is_done_at_some_things_alone(self):
        told = ledger_of("r row num : each x r if less x 2 add x 1 long one x", [0, 5, 1, 7, 9])
        self.assertEqual(told, [
            ((), (), 1, 6), ((1,), (), 5, 15), ((1, 0), (), 5, 5), ((1, 0, 1), (), 5, 5), ((1, 1), (), 2, 2),
            ((1, 1, 1), (), 2, 2), ((1, 2), (), 3, 3), ((1, 2, 0), (), 3, 3),
        ])
        self.tells("t truth : if t 1 div 1 0", [((), (), 1, 2), ((1,), (), 1, 1)], True)
        self.tells("t truth : if t div 1 0 1", [((), (), 1, 2), ((2,), (), 1, 1)], False)

    def test_both_arms_of_one_if_with_unlike_names(self):
        text = "r row num s row num : each x r if less x 2 x sum s"
        self.assertEqual(self.at(text, (1,), [0, 5, 1, 7, 9], [1, 2, 3]), [((), 5, 2 * (1 + 1 + 1) + 3 * (1 + 4 + 1))])
        self.assertEqual(self.at(text, (1,), [5, 0], [1, 2, 3]), [((), 2, (1 + 4 + 1) + (1 + 1 + 1))])

    def test_rounds_of_one_times(self):
        self.tells(": times x 3 1 add x x", [
            ((), (), 1, 4), ((0,), (), 1, 1), ((1,), (), 1, 1), ((2,), (0,), 1, 1), ((2,), (1,), 1, 1), ((2,), (2,), 1, 1),
        ])
        self.tells(": times x 0 1 div x 0", [((), (), 1, 1), ((0,), (), 1, 1), ((1,), (), 1, 1)])
        self.assertEqual([one[0] for one in self.at(": times x 60 0 add x 1", (2,))], [(at,) for at in range(60)])

    def test_rounds_of_times_within_one_another(self):
        told = self.at(": times x 2 0 times y 3 x add y 1", (2, 2))
        self.assertEqual(told, [((one, other), 1, 1) for one in range(2) for other in range(3)])
        told = self.at(": times x 3 0 times y x 1 add y 1", (2, 2))
        self.assertEqual([one[0] for one in told], [(1, 0), (2, 0), (2, 1)])
        self.assertEqual(self.at(": times x times y 2 0 add y 1 0 add x 1", (0, 2)), [((0,), 1, 1), ((1,), 1, 1)])
        self.assertEqual(self.at(": times x 2 times y 1 0 add y 1 add x 1", (1, 2)), [((0,), 1, 1)])

    def test_no_rounds_of_eaches(self):
        self.assertEqual(self.at(": each x upto 3 times y 2 x add y 1", (1, 2)), [((0,), 3, 3), ((1,), 3, 3)])
        self.assertEqual(self.at(": each x upto 3 times y x 0 add y 1", (1, 2)), [((0,), 2, 2), ((1,), 1, 1)])
        self.assertEqual(self.at(": times y 2 upto 3 each x y add x 1", (2, 1)), [((0,), 3, 3), ((1,), 3, 3)])
        self.assertEqual(self.at(": times y 3 upto 1 join y one long y", (2,)), [((0,), 1, 4), ((1,), 1, 5), ((2,), 1, 6)])
        told = self.at(": times a 2 upto 2 each x a times b 2 x add b 1", (2, 1, 2))
        self.assertEqual(told, [((one, other), 2, 2) for one in range(2) for other in range(2)])

    def test_sorted_by_place_and_then_rounds(self):
        told = ledger_of(": times x 11 0 add sum one x 1")
        self.assertEqual(told, sorted(told))
        self.assertEqual([one[:2] for one in told][:4], [((), ()), ((0,), ()), ((1,), ()), ((2,), (0,))])
        self.assertEqual([one[1] for one in told if one[0] == (2,)], [(at,) for at in range(11)])

    def test_none_where_the_reading_stops(self):
        for text, *worths in [
            (": div 1 0",), (": most none num",), (": each x upto 3 div 1 sub 2 x",), (": times x 61 0 x",), (": times x sub 0 1 0 x",),
            (": upto 201",), (": times x 60 1 mul x 10",), ("r row num : pick r 0", []), (": let x div 1 0 5",),
            ("a num : add a a", GREAT), ("r row num k row num : cut r k", [1], [2]),
        ]:
            self.assertIsNone(ledger_of(text, *worths), text)


class Whole(unittest.TestCase):
    def test_each_made_program_has_the_ledger_of_what_is_met(self):
        maker = Maker(14)
        seen = {}
        for _ in range(1200):
            program, worths = maker.program(6)
            told = unchanged(ledger, program, worths)
            self.assertEqual(repr(told), repr(metered(program, worths)), program_text(program))
            self.assertEqual(told is None, read(program, worths)[0] == "stops")
            if told is not None:
                self.assertEqual(len(told), len({one[:2] for one in told}))
                for place, rounds, met, width in told:
                    self.assertIn(place, places(program[1]))
                    self.assertTrue(1 <= met <= width)
                    seen["rounds", len(rounds)] = True
                    seen["several", met > 1] = True
        self.assertGreater(len(seen), 4, "too few sorts of meetings to tell anything")

    def test_rounds_are_those_of_all_times_around(self):
        maker = Maker(15)
        for _ in range(300):
            program, worths = maker.program(6)
            for place, rounds, _, _ in ledger(program, worths) or []:
                piece, many = program[1], 0
                for number in place:
                    many += piece[0] == "times" and binding(piece) == number
                    piece = parts(piece)[number]
                self.assertEqual(len(rounds), many)
                self.assertNotIn(piece[0], ("name", "let"))

    def test_a_wide_ledger(self):
        told = ledger_of(": sum each x upto 200 sum each y upto 200 add x y")
        self.assertEqual(dict([(one[0], one[2:]) for one in told]), {
            (): (1, 201), (0,): (1, 201), (0, 0): (1, 201), (0, 0, 0): (1, 1), (0, 1): (200, 200 * 201), (0, 1, 0): (200, 200 + 40000 * 2),
            (0, 1, 0, 0): (200, 200 * 201), (0, 1, 0, 0, 0): (200, 200), (0, 1, 0, 1): (40000, 40000),
        })


class TheAskersOwn(unittest.TestCase):
    def test_told_again_alike_and_never_the_same_list(self):
        program = read_program("r row num n num : times x n r each y x add y n")
        given = [[1, 2, 3], 2]
        told, again = ledger(program, given), ledger(program, given)
        self.assertEqual(told, again)
        self.assertTrue(no_list_twice(told, again, given))
        told.clear()
        self.assertEqual(ledger(program, given), again)
        given[0].append(4)
        self.assertNotEqual(ledger(program, given), again)


if __name__ == "__main__":
    unittest.main()
