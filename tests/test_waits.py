import copy
import unittest

from broadrow.kinding import kinds_of
from broadrow.ledgers import ledger
from broadrow.plain import read
from broadrow.programs import program_text, read_program
from broadrow.waits import waits
from helper import SIGNS, Maker, Tracker, no_list_twice, told_own, unchanged
from test_running import SIMPLE


def tracked(program, worths):
    """The waits by a Tracker."""
    tracker = Tracker(program, worths)
    met = ledger(program, worths)
    numbers = {step[:2]: number for number, step in enumerate(met)}
    return [(place, rounds, width, sorted(numbers[one] for one in tracker.waits[place, rounds])) for place, rounds, _, width in met]


class Waits(unittest.TestCase):
    def ahead(self, text, *worths):
        """Of each step its place and rounds, and those of all that it waits for."""
        program = read_program(text)
        told = unchanged(waits, program, list(worths))
        self.assertEqual(repr(told), repr(tracked(program, list(worths))), text)
        return {step[:2]: [told[number][:2] for number in step[3]] for step in told}

    def waits_for(self, text, *due, worths=()):
        """Whether the waits are just these; steps are written by their place alone, or by place and rounds."""
        due = {self.step(one): sorted(self.step(other) for other in others) for one, others in due}
        self.assertEqual(self.ahead(text, *worths), due, text)

    def step(self, one):
        return one if one and isinstance(one[0], tuple) else (one, ())


class Parts(Waits):
    def test_names_of_heads(self):
        self.waits_for("a num : a", worths=[1])
        self.waits_for("a num b num : add a b", ((), []), worths=[1, 2])
        self.waits_for("r row num n num : each x r add x n", ((), [(1,)]), ((1,), []), worths=[[1], 2])
        self.waits_for("t truth a num : if t a add a a", ((), []), worths=[True, 1])
        self.waits_for("t truth a num : if t a add a a", ((), [(2,)]), ((2,), []), worths=[False, 1])
        self.waits_for("a num : times x a a add x a", ((), []), worths=[0])

    def test_each_sign_by_its_parts(self):
        self.assertEqual(set(SIMPLE), set(SIGNS))
        for sign, (kinds, tree, fine, _) in SIMPLE.items():
            heads = list(zip("abc", kinds))
            bare = " ".join([f"{head} {kind}" for head, kind in heads] + [":", tree])
            # Each head's name within a pair of itself: its worth comes of a step, then.
            stepped = bare.split(" : ")[0] + " : " + " ".join([f"first pair {word} 0" if word in "abc" else word for word in tree.split()])
            if not heads:
                stepped = bare
            for worths in fine:
                self.ahead(bare, *copy.deepcopy(worths))
                self.ahead(stepped, *copy.deepcopy(worths))

    def test_parts_that_are_steps(self):
        self.waits_for(": 7", ((), []))
        self.waits_for(": not yes", ((), [(0,)]), ((0,), []))
        self.waits_for(": add mul 2 3 4", ((), [(0,), (1,)]), ((0,), [(0, 0), (0, 1)]), ((0, 0), []), ((0, 1), []), ((1,), []))

    def test_lets(self):
        self.waits_for(": let x 5 add x x", ((1,), [(0,)]), ((0,), []))
        self.waits_for(": one let x 5 x", ((), [(0, 0)]), ((0, 0), []))
        self.waits_for(": one let x 5 add x 1", ((), [(0, 1)]), ((0, 0), []), ((0, 1), [(0, 0), (0, 1, 1)]), ((0, 1, 1), []))
        self.waits_for(": let x 5 6", ((0,), []), ((1,), []))
        self.waits_for("a num : let x a one x", ((1,), []), worths=[1])

    def test_lets_within_lets(self):
        self.waits_for(": let x let y 5 y one x", ((1,), [(0, 0)]), ((0, 0), []))
        self.waits_for(": one let x 5 let y x let z y z", ((), [(0, 0)]), ((0, 0), []))
        self.waits_for(": one let x let y 5 let z y z x", ((), [(0, 0, 0)]), ((0, 0, 0), []))
        self.waits_for(": pair let x 5 let y 6 x let x 7 let y x 8", ((), [(0, 0), (1, 1, 1)]), ((0, 0), []), ((0, 1, 0), []), ((1, 0), []), ((1, 1, 1), []))

    def test_each(self):
        self.waits_for(": each x upto 3 add x x", ((), [(0,), (1,)]), ((0,), [(0, 0)]), ((0, 0), []), ((1,), [(0,)]))
        self.waits_for(": each x upto 3 x", ((), [(0,)]), ((0,), [(0, 0)]), ((0, 0), []))
        self.waits_for(": each x upto 3 5", ((), [(0,), (1,)]), ((0,), [(0, 0)]), ((0, 0), []), ((1,), [(0,)]))
        self.waits_for(": each x upto 0 5", ((), [(0,)]), ((0,), [(0, 0)]), ((0, 0), []))
        self.waits_for(": let y 5 each x upto 0 y", ((1,), [(1, 0)]), ((1, 0), [(1, 0, 0)]), ((1, 0, 0), []), ((0,), []))
        self.waits_for(": let y 5 each x upto 1 y", ((1,), [(0,), (1, 0)]), ((1, 0), [(1, 0, 0)]), ((1, 0, 0), []), ((0,), []))
        self.waits_for("r row num : let y 5 each x r y", ((1,), [(0,)]), ((0,), []), worths=[[1]])
        self.waits_for("r row num : let y 5 each x r y", ((1,), []), ((0,), []), worths=[[]])

    def test_if_with_one_arm_and_with_both(self):
        self.waits_for(": if yes 1 2", ((), [(0,), (1,)]), ((0,), []), ((1,), [(0,)]))
        self.waits_for(": if no 1 2", ((), [(0,), (2,)]), ((0,), []), ((2,), [(0,)]))
        self.waits_for("r row truth : each x r if x 1 2", ((), [(1,)]), ((1,), [(1, 1), (1, 2)]), ((1, 1), []), ((1, 2), []), worths=[[True, False]])
        self.waits_for("r row truth : each x r if x 1 2", ((), [(1,)]), ((1,), [(1, 1)]), ((1, 1), []), worths=[[True, True]])
        # Arms that are names alone count only where they are done.
        text = "r row truth : let a 1 let b 2 each x r if x a b"
        one, two, each, arms = (0,), (1, 0), (1, 1), (1, 1, 1)
        self.waits_for(text, (one, []), (two, []), (each, [arms]), (arms, [one]), worths=[[True]])
        self.waits_for(text, (one, []), (two, []), (each, [arms]), (arms, [two]), worths=[[False, False]])
        self.waits_for(text, (one, []), (two, []), (each, [arms]), (arms, [one, two]), worths=[[False, True]])
        self.waits_for(text, (one, []), (two, []), (each, []), worths=[[]])

    def test_times_of_none_one_and_several_turns(self):
        turn = lambda number: ((2,), (number,))
        self.waits_for(": times x 0 5 add x x", ((), [(0,), (1,)]), ((0,), []), ((1,), []))
        self.waits_for(": times x 1 5 add x x", ((), [(0,), (1,), turn(0)]), ((0,), []), ((1,), []), (turn(0), [(0,), (1,)]))
        self.waits_for(": times x 3 5 add x x", ((), [(0,), (1,), turn(0), turn(1), turn(2)]), ((0,), []), ((1,), []),
                       (turn(0), [(0,), (1,)]), (turn(1), [(0,), turn(0)]), (turn(2), [(0,), turn(1)]))
        self.waits_for("n num m num : times x n m add x x", ((), [turn(0), turn(1)]), (turn(0), []), (turn(1), [turn(0)]), worths=[2, 1])

    def test_times_whose_turns_are_names(self):
        self.waits_for(": times x 3 5 x", ((), [(0,), (1,)]), ((0,), []), ((1,), []))
        self.waits_for(": one times x 3 5 let y x y", ((), [(0,)]), ((0,), [(0, 0), (0, 1)]), ((0, 0), []), ((0, 1), []))
        self.waits_for(": let y 7 one times x 2 5 y", ((0,), []), ((1,), [(1, 0)]), ((1, 0), [(0,), (1, 0, 0), (1, 0, 1)]), ((1, 0, 0), []), ((1, 0, 1), []))
        self.waits_for(": let y 7 one times x 0 5 y", ((0,), []), ((1,), [(1, 0)]), ((1, 0), [(1, 0, 0), (1, 0, 1)]), ((1, 0, 0), []), ((1, 0, 1), []))
        # The turn ahead of the turn ahead: x stands for B's worth in every turn.
        once = lambda number: ((2, 0), (number,))
        self.waits_for(": times x 3 5 let z one x x", ((), [(0,), (1,)]), ((0,), []), ((1,), []),
                       (once(0), [(0,), (1,)]), (once(1), [(0,), (1,)]), (once(2), [(0,), (1,)]))

    def test_times_within_times(self):
        inner = lambda number: ((2,), (number,))
        turn = lambda *numbers: ((2, 2), numbers)
        self.waits_for("n num : times x n n times y n x add y x", ((), [inner(0), inner(1)]), (inner(0), [turn(0, 0), turn(0, 1)]),
                       (inner(1), [inner(0), turn(1, 0), turn(1, 1)]), (turn(0, 0), []), (turn(0, 1), [turn(0, 0)]), (turn(1, 0), [inner(0)]),
                       (turn(1, 1), [inner(0), turn(1, 0)]), worths=[2])


class Guards(Waits):
    def test_in_an_arm(self):
        self.waits_for("a num : if less a 2 one a one a", ((), [(0,), (1,)]), ((0,), [(0, 1)]), ((0, 1), []), ((1,), [(0,)]), worths=[1])
        self.waits_for("a num : if less a 2 one a one a", ((), [(0,), (2,)]), ((0,), [(0, 1)]), ((0, 1), []), ((2,), [(0,)]), worths=[2])
        self.waits_for("a num : let t less a a if t let y 5 a a", ((0,), []), ((1,), [(0,)]), worths=[2])
        self.waits_for("t truth : if t 1 2", ((), [(1,)]), ((1,), []), worths=[True])

    def test_in_an_each(self):
        self.waits_for("a num : each x upto 2 a", ((), [(0,)]), ((0,), [(0, 0)]), ((0, 0), []), worths=[1])
        self.waits_for("a num : each x upto 2 one a", ((), [(0,), (1,)]), ((0,), [(0, 0)]), ((0, 0), []), ((1,), [(0,)]), worths=[1])
        self.waits_for("r row num a num : let s r each x s one a", ((1,), [(1, 1)]), ((1, 1), []), worths=[[1], 1])

    def test_in_a_times(self):
        turn = lambda number: ((2,), (number,))
        self.waits_for("a num : times x 2 one a one a", ((), [(0,), (1,), turn(0), turn(1)]), ((0,), []), ((1,), []), (turn(0), [(0,)]), (turn(1), [(0,)]),
                       worths=[1])
        # B stands in none of its turns.
        self.waits_for("a num : times x add a a one a x", ((), [(0,), (1,)]), ((0,), []), ((1,), []), worths=[1])

    def test_in_several(self):
        ahead = self.ahead("a num : each x upto 2 if less x 5 times y 2 one a let z add x 1 one a one a", 1)
        self.assertEqual(sorted({place for place, _ in ahead}),
                         [(), (0,), (0, 0), (1,), (1, 0), (1, 0, 1), (1, 1), (1, 1, 0), (1, 1, 1), (1, 1, 2, 0), (1, 1, 2, 0, 1), (1, 1, 2, 1)])
        for turn in (0, 1):
            self.assertEqual(ahead[(1, 1, 2, 1), (turn,)], [((0,), ()), ((1, 0), ()), ((1, 1, 0), ())])
            self.assertEqual(ahead[(1, 1, 2, 0), (turn,)], [((0,), ()), ((1, 0), ()), ((1, 1, 0), ()), ((1, 1, 2, 0, 1), (turn,))])
        self.assertEqual(ahead[(1, 1, 1), ()], [((0,), ()), ((1, 0), ())])

    def test_guards_in_turns(self):
        # The truth comes of the same turn; so does the row of the each.
        ahead = self.ahead(": times x 2 upto 2 each y upto long x if less y 9 y add y 1")
        for turn in (0, 1):
            self.assertEqual(ahead[(2, 1), (turn,)], [((0,), ()), ((2, 0), (turn,)), ((2, 1, 0), (turn,))])
            self.assertEqual(ahead[(2, 1, 0), (turn,)], [((0,), ()), ((2, 0), (turn,)), ((2, 1, 0, 1), (turn,))])
            ahead_of_long = [((0,), ()), ((1,), ()) if turn == 0 else ((2,), (0,))]
            self.assertEqual(ahead[(2, 0, 0), (turn,)], ahead_of_long)

    def test_a_truth_that_is_a_name_of_a_times(self):
        turn = lambda place, number: (place, (number,))
        ahead = self.ahead(": times x 2 yes if x not x x")
        self.assertEqual(ahead[turn((2,), 0)], [((0,), ()), ((1,), ()), turn((2, 1), 0)])
        self.assertEqual(ahead[turn((2, 1), 0)], [((0,), ()), ((1,), ())])
        self.assertEqual(ahead[turn((2,), 1)], [((0,), ()), turn((2,), 0)])


class Told(Waits):
    def test_the_list_itself(self):
        self.assertEqual(unchanged(waits, read_program(": each x upto 3 add x 10"), []),
                         [((), (), 4, [1, 3]), ((0,), (), 4, [2]), ((0, 0), (), 1, []), ((1,), (), 3, [1, 4]), ((1, 1), (), 3, [1])])
        self.assertEqual(unchanged(waits, read_program("n num : times x 2 n add x 1"), [5]),
                         [((), (), 3, [1, 2, 3]), ((0,), (), 1, []), ((2,), (0,), 1, [1, 4]), ((2,), (1,), 1, [1, 2, 5]), ((2, 1), (0,), 1, [1]), ((2, 1), (1,), 1, [1])])

    def test_none_where_it_stops(self):
        self.assertIsNone(unchanged(waits, read_program(": div 1 0"), []))
        self.assertIsNone(unchanged(waits, read_program("r row num : each x r div 1 x"), [[1, 0]]))
        self.assertEqual(unchanged(waits, read_program("r row num : r"), [[1, 0]]), [])

    def test_more_than_nine_turns_are_sorted_by_number(self):
        told = waits(read_program("n num : times x 12 n add x x"), [1])
        self.assertEqual([step[1] for step in told if step[0] == (2,)], [(number,) for number in range(12)])
        self.assertEqual([step[3] for step in told if step[0] == (2,)], [[1]] + [[1, number + 1] for number in range(1, 12)])

    def test_programs_of_every_sign(self):
        signs, seen = set(), 0
        for seed in range(900):
            program, worths = Maker(seed).program()
            told = unchanged(waits, program, worths)
            if read(program, worths)[0] == "stops":
                self.assertIsNone(told)
                continue
            self.assertEqual(repr(told), repr(tracked(program, worths)), (program_text(program), worths))
            self.assertTrue(no_list_twice(told, worths))
            seen += 1
            signs.update(program_text(program).split())
        self.assertGreater(seen, 300)
        self.assertLessEqual(set(SIGNS) - {"num", "name"}, signs)

    def test_told_is_the_askers_own(self):
        told_own(waits, read_program("r row num : each x r times y 2 x if less x 9 add y x y"), [[1, 20]])

    def test_many_turns_of_names_alone(self):
        text = "n num : times a 60 n times b 60 a let c b let d c let e d let f e let g f let h g let i h let j i j"
        program = read_program(text)
        self.assertEqual(kinds_of(program)[-1], ((), ("num",)))
        told = unchanged(waits, program, [1])
        self.assertEqual(told[0][3], [number + 1 for number in range(61)])


if __name__ == "__main__":
    unittest.main()
