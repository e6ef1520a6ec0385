import copy
import random
import unittest

from broadrow.ledgers import ledger
from broadrow.plain import read
from broadrow.programs import program_text, read_program
from broadrow.running import run, run_steps
from helper import GREAT, SIGNS, Maker, name, no_list_twice, num, told_own, unchanged

# Of each sign its heads' kinds, its tree by heads a, b, c, and rows of worths of these: some by which it comes to a
# worth, then, where there are any, some by which it stops, the word ahead.
SIMPLE = {
    "num": ((), "7", [()], []),
    "yes": ((), "yes", [()], []),
    "no": ((), "no", [()], []),
    "name": (("row num",), "a", [([1, 2],), ([],)], []),
    "none": ((), "none pair num truth", [()], []),
    "not": (("truth",), "not a", [(True,), (False,)], []),
    "first": (("pair num row truth",), "first a", [((3, [True]),), ((4, []),)], []),
    "second": (("pair num row truth",), "second a", [((3, [True]),), ((4, []),)], []),
    "one": (("row num",), "one a", [([1, 2],), ([],)], []),
    "upto": (("num",), "upto a", [(0,), (3,), (200,)], [("far", -1), ("far", 201)]),
    "long": (("row truth",), "long a", [([],), ([True, False],)], []),
    "sum": (("row num",), "sum a", [([],), ([1, 2],)], [("great", [GREAT, 1, -1]), ("great", [-GREAT, -1])]),
    "sums": (("row num",), "sums a", [([],), ([1, 2, 3],)], [("great", [GREAT, 1])]),
    "most": (("row num",), "most a", [([3],), ([1, 5, 2],)], [("empty", [])]),
    "flat": (("row row num",), "flat a", [([[1], [], [2, 3]],), ([],)], [("far", [[0] * 200, [1]])]),
    "add": (("num", "num"), "add a b", [(1, 2), (-5, 3)], [("great", GREAT, 1)]),
    "sub": (("num", "num"), "sub a b", [(1, 2), (-5, 3)], [("great", -GREAT, 1)]),
    "mul": (("num", "num"), "mul a b", [(4, 2), (-5, 3)], [("great", GREAT, 2)]),
    "div": (("num", "num"), "div a b", [(7, 2), (-7, 2)], [("nought", 3, 0)]),
    "rest": (("num", "num"), "rest a b", [(7, 2), (-7, 2)], [("nought", 3, 0)]),
    "less": (("num", "num"), "less a b", [(1, 2), (2, 1)], []),
    "same": (("num", "num"), "same a b", [(1, 2), (2, 2)], []),
    "both": (("truth", "truth"), "both a b", [(True, True), (True, False)], []),
    "pair": (("num", "row num"), "pair a b", [(1, [2]), (2, [])], []),
    "pick": (("row row num", "num"), "pick a b", [([[1, 2], []], 0), ([[1], [2]], 1)], [("beyond", [[1]], 1), ("beyond", [[1]], -1)]),
    "join": (("row num", "row num"), "join a b", [([1], [2, 3]), ([], [])], [("far", [0] * 200, [1])]),
    "keep": (("row num", "row truth"), "keep a b", [([1, 2], [True, False]), ([], [])], [("unlike", [1], [])]),
    "cut": (("row num", "row num"), "cut a b", [([1, 2, 3], [1, 0, 2]), ([], [])], [("unlike", [1], [-1, 2]), ("unlike", [1], [2])]),
    "let": (("num", "num"), "let x div a b add x x", [(7, 2), (8, 2)], [("nought", 7, 0)]),
    "if": (("truth", "num", "num"), "if a div 6 b div 6 c", [(True, 2, 0), (False, 0, 3)], [("nought", True, 0, 1), ("nought", False, 1, 0)]),
    "each": (("row num", "num"), "each x a div b x", [([1, 2, 3], 6), ([], 0)], [("nought", [1, 0, 0], 6)]),
    "times": (("num", "num", "num"), "times x a b div x c", [(0, 5, 0), (1, 5, 2), (3, 81, 2), (60, GREAT, 1)],
              [("nought", 2, 5, 0), ("far", -1, 2, 3), ("far", 61, 2, 3)]),
}

HEADS = ("a", "b", "c")


def run_of(text, *worths):
    return unchanged(run, read_program(text), list(worths))


class Runs(unittest.TestCase):
    def same(self, program, worths):
        """What the run tells, once it is seen that the plain reading tells the same, of its steps too."""
        told = unchanged(run, program, worths)
        where = (program_text(program), worths)
        self.assertEqual(repr(told), repr(read(program, worths)), where)
        steps = unchanged(run_steps, program, worths)
        meetings = ledger(program, worths)
        self.assertEqual(repr(steps if steps is None else sorted(steps)), repr(meetings), where)
        self.assertTrue(no_list_twice(told, steps, worths), where)
        return told

    def tells(self, text, told, *worths):
        self.assertEqual(repr(self.same(read_program(text), list(worths))), repr(told), text)

    def stops(self, text, word, place, turns, *worths):
        self.tells(text, ("stops", word, place, turns), *worths)


class EachSign(Runs):
    def texts(self, sign):
        """The text of the sign by itself, its heads, and its rows of worths."""
        kinds, tree, fine, wrong = SIMPLE[sign]
        return list(zip(HEADS, kinds)), tree, fine, wrong

    def test_by_itself(self):
        self.assertEqual(set(SIMPLE), set(SIGNS))
        for sign in SIMPLE:
            heads, tree, fine, wrong = self.texts(sign)
            text = " ".join([f"{head} {kind}" for head, kind in heads] + [":", tree])
            for worths in fine:
                self.assertEqual(self.same(read_program(text), list(worths))[0], "is", text)
            for word, *worths in wrong:
                self.assertEqual(self.same(read_program(text), worths)[:2], ("stops", word), text)

    def for_all(self, sign, around, many):
        """The text of a program that does the sign for the thing i of each head's row."""
        heads, tree, _, _ = self.texts(sign)
        lets = " ".join([f"let {head} pick {head * 2} i" for head, _ in heads])
        text = " ".join([f"{head * 2} row {kind}" for head, kind in heads] + [":", around.replace("T", f"{lets} {tree}").replace("N", str(many))])
        return read_program(" ".join(text.split()))

    def columns(self, sign, things):
        return [[copy.deepcopy(thing[at]) for thing in things] for at in range(len(self.texts(sign)[0]))]

    def test_for_many_things(self):
        for around in ("each i upto N T", "each i upto N each j upto i T", "each i upto N each j upto 2 each k upto j long one T",
                       "each i upto N if less i 1 T T", "each i upto N if less 0 i T T", "each i upto N if same 0 rest i 2 T T",
                       "each i upto N times z 2 T T", "each i upto N times z i T T", "times z 2 0 sum each i upto N long one T",
                       "each i upto N times z rest i 2 T if less i 2 T T", "each j upto 2 each i upto N if same i j T T"):
            for sign in SIMPLE:
                _, _, fine, wrong = self.texts(sign)
                fine = fine * 2
                self.assertEqual(self.same(self.for_all(sign, around, len(fine)), self.columns(sign, fine))[0], "is")
                for word, *worths in wrong:
                    for at in (0, len(fine) // 2, len(fine)):
                        things = fine[:at] + [tuple(worths)] + fine[at:]
                        self.same(self.for_all(sign, around, len(things)), self.columns(sign, things))

    def test_at_the_first_in_the_middle_and_at_the_last(self):
        for sign in SIMPLE:
            _, _, fine, wrong = self.texts(sign)
            for word, *worths in wrong:
                for at in (0, 1, 2):
                    things = (fine * 2)[:at] + [tuple(worths)] + (fine * 2)[:2 - at]
                    program = self.for_all(sign, "each i upto N T", 3)
                    told = self.same(program, self.columns(sign, things))
                    self.assertEqual((told[0], told[1], told[3][0]), ("stops", word, at))
                    # Two of them: the first counts.
                    told = self.same(self.for_all(sign, "each i upto N T", 4), self.columns(sign, things + [tuple(worths)]))
                    self.assertEqual((told[0], told[1], told[3][0]), ("stops", word, at))

    def test_each_of_no_things_and_arms_of_none(self):
        for sign in SIMPLE:
            _, _, fine, _ = self.texts(sign)
            self.assertEqual(self.same(self.for_all(sign, "each i upto 0 T", 0), self.columns(sign, fine)), ("is", []))
            for around in ("each i upto N if yes T T", "each i upto N if no T T", "each i upto 0 each j upto 0 T",
                           "each j upto 3 each i upto 0 T"):
                self.assertEqual(self.same(self.for_all(sign, around, len(fine)), self.columns(sign, fine))[0], "is")


class Worths(Runs):
    def test_ordinary(self):
        self.tells("r row num n num : each x r add x n", ("is", [3, 4]), [1, 2], 2)
        self.tells("r row row num : each x r sum x", ("is", [3, 0, 7]), [[1, 2], [], [7]])
        self.tells("r row row num : each x r each y x mul y long x", ("is", [[2, 4], [], [7]]), [[1, 2], [], [7]])
        self.tells("r row num : each x r if less x 0 sub 0 x x", ("is", [1, 2, 0, 3]), [1, -2, 0, -3])
        self.tells("r row num : each x r times y x 1 mul y 2", ("is", [8, 1, 2, 4]), [3, 0, 1, 2])
        self.tells(": times x 3 one 0 join x each y x add y 1", ("is", [0, 1, 1, 2, 1, 2, 2, 3]))
        self.tells("r row truth : each x r if x one x none truth", ("is", [[True], [], [True]]), [True, False, True])
        self.tells("r row pair num truth : each x r pair second x first x", ("is", [(True, 1), (False, 0)]), [(1, True), (0, False)])

    def test_heads_and_lets_alone(self):
        self.tells("a row num : a", ("is", [1]), [1])
        self.tells("a row num : let x a let y x y", ("is", [1]), [1])
        self.tells("a row num b num : pair a let x b x", ("is", ([1], 2)), [1], 2)
        self.tells("a row num : each x a x", ("is", [1, 2]), [1, 2])

    def test_names_brought_inwards(self):
        self.tells("r row num s row num : each x r each y s each z upto y add x add y z", ("is", [[[11], [12, 13]], [[21], [22, 23]]]), [10, 20], [1, 2])
        self.tells("r row num n num : each x r let y add x n times z x n add z y", ("is", [5, 11, 19]), [0, 1, 2], 5)
        self.tells("r row num n num : each x r let y add x n if less x 2 if less x 1 y add y n mul y n", ("is", [5, 11, 35]), [0, 1, 2], 5)

    def test_times_of_unlike_numbers(self):
        self.tells("r row num : each x r times y x x add y 10", ("is", [0, 33, 11, 0, 22]), [0, 3, 1, 0, 2])
        self.tells("r row num : each x r times y x one x join y one x", ("is", [[0], [2, 2, 2], [1, 1]]), [0, 2, 1])
        self.tells("r row num : each x r times y x 1 times z y x add z 1", ("is", [1, 2, 5, 10]), [0, 1, 2, 3])
        self.tells("r row num : each x r times y x x if less y 3 add y 1 sub y 1", ("is", [0, 2, 2]), [0, 1, 2])
        self.tells(": each x upto 61 times y x 0 add y 1", ("is", list(range(61))))

    def test_turns_within_one_another(self):
        self.tells(": each x upto 3 times y x one x each z y add z 1", ("is", [[0], [2], [4]]))
        self.tells(": times y 2 upto 2 each z y times w z z add w z", ("is", [0, 6]))
        self.tells(": times y 2 1 times z y y times w z z add w 1", ("is", 8))


class Stops(Runs):
    def test_each_word(self):
        for text, word in ((": mul 1000000000000000000 2", "great"), (": div 1 0", "nought"), (": pick one 1 1", "beyond"), (": most none num", "empty"),
                           (": upto 201", "far"), (": keep upto 2 one yes", "unlike")):
            tree = text[2:]
            self.stops(text, word, (), ())
            self.stops(f": each x upto 3 {tree}", word, (1,), (0,))
            self.stops(f": each x upto 3 each y upto x {tree}", word, (1, 1), (1, 0))
            self.stops(f": each x upto 3 if less x 2 one x each y upto 1 let z {tree} y", word, (1, 2, 1, 0), (2, 0))
            self.tells(f": each x upto 0 {tree}", ("is", []))

    def test_earlier_things_go_ahead_of_earlier_pieces(self):
        # The first piece stops for the thing 2, the second one already for the thing 1.
        self.stops("r row num : each x r add div 1 sub x 2 div 1 sub x 1", "nought", (1, 1), (1,), [0, 1, 2, 3])
        self.stops("r row num : each x r add div 1 sub x 1 div 1 sub x 2", "nought", (1, 0), (1,), [0, 1, 2, 3])
        self.stops("r row num : each x r add div 1 sub x 1 div 1 sub x 1", "nought", (1, 0), (1,), [0, 1, 2, 3])
        # Three pieces, each a thing ahead of the one before, and each a thing behind it.
        text = "r row num : each x r add div 1 sub x 3 add pick one 0 long keep one 0 one same x 2 most keep one x one not same x 1"
        self.stops(text, "empty", (1, 1, 1), (1,), [0, 1, 2, 3])
        self.stops(text, "nought", (1, 0), (1,), [0, 3, 2, 1])
        self.stops(text, "beyond", (1, 1, 0), (1,), [0, 2, 1, 3])
        self.stops(text, "beyond", (1, 1, 0), (1,), [0, 2, 3, 1])

    def test_an_each_in_which_a_later_one_stops(self):
        self.stops("r row row num : each x r add sum each y x div 6 y div 6 sub long x 2", "nought", (1, 1), (1,), [[1], [1, 2], [0]])
        self.stops("r row row num : each x r add sum each y x div 6 y div 6 sub long x 2", "nought", (1, 0, 0, 1), (1, 1), [[1], [1, 0], [0]])
        self.stops("r row row num : each x r each y x add div 6 sub y 1 div 6 sub y 2", "nought", (1, 1, 1), (0, 1), [[3, 2], [1], [2]])
        self.stops("r row row num : each x r each y x add div 6 sub y 1 div 6 sub y 2", "nought", (1, 1, 0), (2, 0), [[3], [], [1, 2]])
        self.stops("r row row num : each x r each y x each z upto y div 1 sub z 1", "nought", (1, 1, 1), (1, 1, 1), [[1, 0], [1, 2], [2]])

    def test_what_was_left_out_is_done_no_more(self):
        # Of the row in which one stopped, the things ahead of it are left out with it, and stop nothing later.
        self.stops("r row row num : each x r each z each y x div 6 y pick one 0 sub z 6", "nought", (1, 0, 1), (1, 1), [[1], [2, 0]])
        self.stops("r row row num : each x r each z each y x div 6 y pick one 0 sub z 6", "beyond", (1, 1), (0, 0), [[2], [1, 0]])
        text = "r row row num : each x r each z each y x upto div 600 y long join z z"
        self.stops(text, "nought", (1, 0, 1, 0), (1, 1), [[6], [4, 0]])
        self.stops(text, "far", (1, 1, 0), (1, 0), [[6], [4, 6], [0]])
        self.stops("r row num : each x r pick one 0 if less x 2 x div 1 sub x 2", "nought", (1, 1, 2), (1,), [0, 2, 1, 1])
        self.stops("r row num : each x r pick one 0 if less x 2 x div 1 sub x 2", "beyond", (1,), (0,), [1, 2, 0])

    def test_both_arms_of_an_if(self):
        text = "r row num : each x r if less x 0 div 1 add x 3 div 1 sub x 3"
        self.stops(text, "nought", (1, 2), (1,), [1, 3, -1, -3])
        self.stops(text, "nought", (1, 1), (1,), [1, -3, -1, 3])
        self.stops(text, "nought", (1, 2), (0,), [3, -3, 3])
        self.stops(text, "nought", (1, 1), (0,), [-3, 3, -3])
        self.stops(text, "nought", (1, 1), (3,), [-1, 1, 2, -3])
        self.stops(text, "nought", (1, 2), (3,), [-1, 1, 2, 3, -3])
        # What is done behind the arms for the things that they left.
        self.stops("r row num : each x r let y if less x 0 div 1 add x 3 div 1 sub x 3 div y sub x 1", "nought", (1, 1), (1,), [2, 1, -1, 3, -3])
        self.stops("r row num : each x r if less x 0 if less x 2 div 1 add x 3 1 if less x 5 div 1 sub x 3 div 1 sub x 7", "nought", (1, 2, 2), (1,),
                   [-1, 7, 3, -3])

    def test_turns_of_unlike_things(self):
        # Turn y of the thing x divides by what stands in the row: the earlier thing goes ahead, in whatever turn.
        text = "r row row num : each x r times y 4 0 add add y 1 rest 0 pick x y"
        self.stops(text, "nought", (1, 2, 1), (0, 3), [[1, 1, 1, 0], [0, 1, 1, 1]])
        self.stops(text, "nought", (1, 2, 1), (1, 0), [[1, 1, 1, 1], [0, 1, 1, 1], [1, 0, 1, 1]])
        self.stops(text, "nought", (1, 2, 1), (0, 1), [[1, 0, 1, 1], [1, 1, 0, 1], [0, 1, 1, 1]])
        self.stops(text, "nought", (1, 2, 1), (2, 3), [[1, 1, 1, 1], [1, 1, 1, 1], [1, 1, 1, 0], [1, 0, 1, 1]])
        self.stops(text, "beyond", (1, 2, 1, 1), (1, 2), [[1, 1, 1, 1], [1, 1], [0, 1, 1, 1]])

    def test_things_whose_turns_are_done(self):
        # The thing 2 has no turns left when the thing 1 stops: both are left out, and the thing 0 stops behind its turns.
        text = "r row pair num num : each x r add times y first x 9 add sub y 1 rest 0 sub y 8 div 1 second x"
        self.stops(text, "nought", (1, 0, 2, 1), (1, 1), [(1, 1), (3, 1), (0, 0), (1, 0)])
        self.stops(text, "nought", (1, 1), (0,), [(1, 0), (3, 1), (0, 1)])
        self.stops(text, "nought", (1, 1), (1,), [(0, 1), (0, 0), (3, 1)])
        self.tells(text, ("is", [10, 9, 10]), [(0, 1), (1, 1), (0, 1)])

    def test_far_ahead_of_the_turns(self):
        text = "r row num : each x r times y x 1 div 6 sub y 1"
        self.stops(text, "far", (1,), (1,), [0, 61, 1])
        self.stops(text, "far", (1,), (1,), [0, -1, 1])
        self.stops(text, "nought", (1, 2), (1, 0), [0, 1, 61])
        self.stops(text, "far", (1,), (0,), [-1, 61])
        self.stops("n num : times y n div 1 0 y", "nought", (1,), (), 61)
        self.stops("n num : times y n 1 div 1 0", "far", (), (), 61)
        self.stops("n num : times y n 1 div 1 0", "far", (), (), -1)
        self.stops("n num : times y n 1 div 1 0", "nought", (2,), (0,), 60)
        self.tells("n num : times y n 1 div 1 0", ("is", 1), 0)
        self.stops("r row num : each x r times y x times z x 1 z 2", "far", (1, 1), (1,), [60, 61])
        self.stops("r row num : each x r times y x 0 times z sub y 1 0 1", "far", (1, 2), (1, 0), [0, 2, 61])

    def test_what_no_thing_does_stops_nothing(self):
        self.tells("r row num : each x r div 1 0", ("is", []), [])
        self.tells("r row num : each x r if less x 9 x div 1 0", ("is", [1, 2]), [1, 2])
        self.tells("r row num : each x r if less 9 x div 1 0 x", ("is", [1, 2]), [1, 2])
        self.tells("r row num : each x r times y 0 x div 1 0", ("is", [1, 2]), [1, 2])
        self.tells("r row num : each x r each y upto 0 div 1 0", ("is", [[], []]), [1, 2])

    def test_nothing_is_done_once_the_frame_has_no_things(self):
        self.stops(": add div 1 0 pick one 1 2", "nought", (0,), ())
        self.stops(": add pick one 1 2 div 1 0", "beyond", (0,), ())
        self.stops(": each x upto 2 pair div 1 0 most none num", "nought", (1, 0), (0,))
        self.stops(": let x each y upto 2 div 1 0 div 1 0", "nought", (0, 1), (0,))
        self.stops(": if same div 1 0 1 div 1 0 div 1 0", "nought", (0, 0), ())
        self.stops(": times x div 1 0 div 1 0 div 1 0", "nought", (0,), ())


class Steps(unittest.TestCase):
    def tells(self, text, steps, *worths):
        self.assertEqual(repr(unchanged(run_steps, read_program(text), list(worths))), repr(steps), text)

    def test_in_the_order_in_which_they_end(self):
        self.tells("a num : a", [], 1)
        self.tells("a num : let x a x", [], 1)
        self.tells(": add mul 2 3 4", [((0, 0), (), 1, 1), ((0, 1), (), 1, 1), ((0,), (), 1, 1), ((1,), (), 1, 1), ((), (), 1, 1)])
        self.tells(": let x 5 add x x", [((0,), (), 1, 1), ((1,), (), 1, 1)])
        self.tells("r row num n num : each x r add x n", [((1,), (), 3, 3), ((), (), 1, 7)], [1, 2, 3], 5)
        self.tells("t truth : if t 1 2", [((1,), (), 1, 1), ((), (), 1, 2)], True)
        self.tells("t truth : if t 1 2", [((2,), (), 1, 1), ((), (), 1, 2)], False)
        self.tells(": times x 2 0 add x 1",
                   [((0,), (), 1, 1), ((1,), (), 1, 1), ((2, 1), (0,), 1, 1), ((2,), (0,), 1, 1), ((2, 1), (1,), 1, 1), ((2,), (1,), 1, 1), ((), (), 1, 3)])

    def test_arms_and_turns_for_several_things(self):
        self.tells("r row num : each x r if less x 2 one x upto x",
                   [((1, 0, 1), (), 4, 4), ((1, 0), (), 4, 4), ((1, 1), (), 2, 2), ((1, 2), (), 2, 7), ((1,), (), 4, 4 + 4 + 2 + 2 + 2 + 5), ((), (), 1, 5)],
                   [2, 0, 1, 3])
        self.tells("r row num n num : each x r times y x n add y n",
                   [((1, 2), (0,), 2, 2), ((1, 2), (1,), 1, 1), ((1,), (), 3, 3 + 3 * 2), ((), (), 1, 1 + 3 * 2)], [0, 2, 1], 7)
        self.tells(": each x upto 3 each y upto x add y x",
                   [((0, 0), (), 1, 1), ((0,), (), 1, 4), ((1, 0), (), 3, 6), ((1, 1), (), 3, 3), ((1,), (), 3, 9), ((), (), 1, 4)])

    def test_nothing_that_is_done_for_no_things(self):
        self.tells("r row num : each x r add x 1", [((), (), 1, 1)], [])
        self.tells("r row num : each x r if less x 9 x add x 1", [((1, 0, 1), (), 1, 1), ((1, 0), (), 1, 1), ((1,), (), 1, 3), ((), (), 1, 2)], [1])
        self.tells("n num r row num : times x n r each y x add y 1", [((), (), 1, 1)], 0, [1])
        self.tells("r row row num : each x r each y x add y 1", [((1,), (), 2, 2), ((), (), 1, 3)], [[], []])

    def test_none_where_it_stops(self):
        self.tells(": div 1 0", None)
        self.tells("r row num : each x r div 1 x", None, [1, 1, 0])
        self.tells("r row num : each x r times y x x y", None, [1, 1, -1])


class Stopper:
    """Makes programs of numbers that often stop, in arms, eaches and turns, by a chance that is the same each time."""

    def __init__(self, seed):
        self.chance = random.Random(seed)
        self.fresh = 0

    def new_name(self):
        self.fresh += 1
        return "x" + "abcdefghijklmnopqrstuvwxyz"[self.fresh % 26] + "abcdefghijklmnopqrstuvwxyz"[self.fresh // 26 % 26]

    def tree(self, depth, names):
        if depth == 0:
            return name(self.chance.choice(names)) if self.chance.random() < 0.8 else num(self.chance.choice([0, 1, 2, 60]))
        ways = [self.by_div, self.by_div, self.by_if, self.by_if, self.by_each, self.by_each, self.by_times, self.by_let, self.by_pick]
        return self.chance.choice(ways)(depth - 1, names)

    def by_div(self, depth, names):
        return (self.chance.choice(["div", "rest", "add", "sub", "mul"]), self.tree(depth, names), self.tree(depth // 2, names))

    def by_if(self, depth, names):
        return ("if", ("less", self.tree(depth // 2, names), self.tree(0, names)), self.tree(depth, names), self.tree(depth, names))

    def by_each(self, depth, names):
        bound = self.new_name()
        things = self.chance.choice([name("r"), name("s"), ("each", bound + "e", name("r"), self.tree(depth // 2, names))])
        return (self.chance.choice(["sum", "most", "long"]), ("each", bound, things, self.tree(depth, names + [bound])))

    def by_times(self, depth, names):
        bound = self.new_name()
        return ("times", bound, self.tree(0, names), self.tree(depth // 2, names), self.tree(depth, names + [bound]))

    def by_let(self, depth, names):
        bound = self.new_name()
        return ("let", bound, self.tree(depth // 2, names), self.tree(depth, names + [bound]))

    def by_pick(self, depth, names):
        return ("pick", name(self.chance.choice(["r", "s"])), self.tree(depth, names))

    def program(self):
        heads = (("n", ("num",)), ("r", ("row", ("num",))), ("s", ("row", ("num",))))
        worths = [self.chance.randint(0, 3), *[[self.chance.randint(-1, 3) for _ in range(self.chance.randint(1, 5))] for _ in "rs"]]
        inner = ("each", "q", name("r"), ("each", "p", name("s"), self.tree(self.chance.randint(1, 4), ["n", "q", "p"])))
        return (heads, inner), worths


class Many(Runs):
    def test_programs_of_every_sign(self):
        stops = set()
        for seed in range(700):
            program, worths = Maker(seed).program()
            told = self.same(program, worths)
            stops.add(told[1] if told[0] == "stops" else "is")
        self.assertEqual(stops, {"is", "great", "nought", "beyond", "empty", "far", "unlike"})

    def test_programs_that_often_stop(self):
        turns = {}
        for seed in range(900):
            program, worths = Stopper(seed).program()
            told = self.same(program, worths)
            many = len(told[3]) if told[0] == "stops" else -1
            turns[many] = turns.get(many, 0) + 1
        self.assertGreater(min(turns[many] for many in (-1, 2, 3, 4)), 5, turns)

    def test_told_is_the_askers_own(self):
        for text, worths in (("r row row num : each x r pair x x", [[[1, 2], []]]), ("r row row num : pair r r", [[[1]]]), ("r row num : r", [[1]]),
                             ("r row num : each x r div 1 x", [[1, 0]]), ("r row num : let x pair r r pair x x", [[1]])):
            told_own(run, read_program(text), copy.deepcopy(worths))
            told_own(run_steps, read_program(text), worths)


if __name__ == "__main__":
    unittest.main()
