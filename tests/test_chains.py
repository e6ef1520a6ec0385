import unittest

from broadrow.chains import is_chain, settled
from broadrow.ledgers import ledger
from broadrow.plain import read
from broadrow.programs import is_program, program_text, read_program
from broadrow.rules import fitting, now_at, put_otherwise
from helper import Ruler, no_list_twice, odd_things, told_own, unchanged

SEVERAL = [
    "a num : add add a 0 mul 1 a",
    "t truth a num : if not not both yes t let x a add x x add a a",
    "r row num : each x each y r one y long x",
    ": add add 1 1 add 1 1",
    "r row num a num : pick each x each y r add y 0 pair x 1 a",
]


def link(program, rule, place):
    return (rule, place, put_otherwise(program, rule, place))


class Chains(unittest.TestCase):
    def is_one(self, program, thing):
        self.assertIs(unchanged(is_chain, program, thing), True, (program_text(program), thing))

    def is_none(self, program, thing):
        self.assertIs(unchanged(is_chain, program, thing), False, (program_text(program), thing))

    def test_of_none_one_and_several(self):
        program = read_program("a num : add add a 0 mul 1 a")
        self.is_one(program, [])
        first = link(program, "nought", (1,))
        self.assertEqual(first[2], read_program("a num : add add a 0 a"))
        self.is_one(program, [first])
        second = link(first[2], "nought", (0,))
        self.is_one(program, [first, second])
        self.assertEqual(program_text(second[2]), "a num : add a a")
        self.is_one(first[2], [second])
        self.is_none(program, [second])
        self.is_none(program, [second, first])
        self.is_none(program, [first, first])
        # The other way round: another chain to the same end.
        self.is_one(program, [link(program, "nought", (0,)), link(put_otherwise(program, "nought", (0,)), "nought", (1,))])

    def test_steps_left_out_and_exchanged(self):
        program = read_program("a num : add add add a 0 mul 1 a add 0 0")
        chain = settled(program)
        self.assertGreater(len(chain), 3)
        self.is_one(program, chain)
        for at in range(len(chain)):
            self.is_one(program, chain[:at])
            if at < len(chain) - 1:
                self.is_none(program, chain[:at] + chain[at + 1:])
                self.is_none(program, chain[:at] + [chain[at + 1], chain[at]] + chain[at + 2:])
            self.is_none(program, chain[:at] + [chain[at]] + chain[at:])

    def test_another_rule_place_or_program(self):
        for text in SEVERAL:
            program = read_program(text)
            chain = settled(program)
            for at, (rule, place, told) in enumerate(chain):
                for one in [
                    ("share" if rule != "share" else "drop", place, told), (rule, place + (0,), told), (rule, place, program), (rule, place, None),
                    (rule, place, (told[0], ("yes",))), (rule, place, told[1]), (rule, list(place), told), (rule, place, list(told)), [rule, place, told],
                    (rule, place), (rule, place, told, None), (place, rule, told), (None, place, told), (rule, None, told), ([rule], place, told), None,
                    (rule, place, (told[0], told[1], ())), (rule, place, (list(told[0]), told[1])), (rule, place, (told[0], list(told[1]))),
                ]:
                    self.is_none(program, chain[:at] + [one] + chain[at + 1:])

    def test_truths_for_numbers(self):
        program = read_program(": pair add 1 0 1")
        self.is_one(program, [("nought", (0,), ((), ("pair", ("num", 1), ("num", 1))))])
        self.is_none(program, [("nought", (False,), ((), ("pair", ("num", 1), ("num", 1))))])
        self.is_none(program, [("nought", (0,), ((), ("pair", ("num", True), ("num", 1))))])
        self.is_none(program, [("nought", (0,), ((), ("pair", ("num", 1), ("num", True))))])

    def test_any_other_thing(self):
        for text in SEVERAL:
            program = read_program(text)
            for thing in odd_things():
                if thing != []:
                    self.is_none(program, thing)
                self.is_none(program, [thing])
                self.is_none(program, [(thing, thing, thing)])
                self.is_none(program, [("nought", thing, program)])
            self.is_none(program, tuple(settled(program)))
            self.is_none(program, program)


class Settled(unittest.TestCase):
    def test_ordinary(self):
        for text, many, end in [
            ("a num : a", 0, "a num : a"),
            ("a num : add a 0", 1, "a num : a"),
            (": add add 1 1 add 1 1", 3, ": 4"),
            ("a num : add mul a a mul a a", 1, "a num : let b mul a a add b b"),
            ("r row num : each x each y r one y long x", 1, "r row num : each y r let x one y long x"),
            ("t truth : not not not not t", 2, "t truth : t"),
        ]:
            program = read_program(text)
            told = unchanged(settled, program)
            self.assertEqual((len(told), program_text(told[-1][2] if told else program)), (many, end))

    def test_the_list_itself(self):
        program = read_program("t truth a num : if not yes add a 0 a")
        self.assertEqual(settled(program), [
            ("nought", (1,), read_program("t truth a num : if not yes a a")),
            ("alike", (), read_program("t truth a num : a")),
        ])
        program = read_program(": add 0 0")
        self.assertEqual(settled(program), [("nought", (), read_program(": 0"))])

    def test_each_step_is_the_first_that_fits_till_none_does(self):
        seen, rules = 0, set()
        for seed in range(250):
            program, worths = Ruler(seed).program(4)
            chain = unchanged(settled, program)
            self.assertTrue(is_chain(program, chain))
            last = program
            for rule, place, told in chain:
                self.assertEqual((rule, place), fitting(last)[0])
                self.assertTrue(is_program(told))
                last = told
                rules.add(rule)
            self.assertEqual(fitting(last), [])
            self.assertTrue(no_list_twice(chain))
            self.same(program, worths, chain)
            seen += len(chain) > 2
        self.assertGreater(seen, 100)
        self.assertGreater(len(rules), 17)

    def same(self, program, worths, chain):
        """Sees that the last program of the chain is the same as the first, but for the place."""
        last = chain[-1][2] if chain else program
        elder, newer = read(program, worths), read(last, worths)
        if elder[0] == "is":
            self.assertEqual(repr(elder), repr(newer))
            old, new = ledger(program, worths), ledger(last, worths)
            self.assertLessEqual(len(new), len(old))
            self.assertLessEqual(sum(step[3] for step in new), sum(step[3] for step in old))
            return
        place = elder[2]
        for rule, where, told in chain:
            place = now_at(program, rule, where, place)
            program = told
        self.assertEqual(newer, (*elder[:2], place, elder[3]))

    def test_told_is_the_askers_own(self):
        for text in SEVERAL:
            told_own(settled, read_program(text))


if __name__ == "__main__":
    unittest.main()
