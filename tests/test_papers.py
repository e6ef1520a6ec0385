import copy
import random
import unittest

from broadrow.flats import flat_of
from broadrow.kinding import kinds_of
from broadrow.papers import is_paper, paper
from broadrow.plain import read
from broadrow.programs import program_text, read_program
from broadrow.running import run_steps
from broadrow.waits import waits
from helper import SIGNS, Maker, Tracker, no_list_twice, odd_things, told_own, unchanged

SEVERAL = [
    (": add mul 2 3 4", []),
    ("r row num n num : each x r add x n", [[1, 2, 3], 5]),
    ("r row num : each x r if less x 2 add x 1 mul x 2", [[1, 3, 0, 2]]),
    (": times x 3 1 add x x", []),
    ("r row num : each x r times y x 1 mul y let z 2 z", [[1, 0, 2]]),
    ("r row row num t truth : let s flat r pair each x r join x s if t one s none row num", [[[1], [], [2, 3]], True]),
    ("r row truth : each x r pair not x 1", [[True, False]]),
]


def tracked(program, worths):
    """By a Tracker, of each meeting the flat of what it comes to and how many these are."""
    kinds = dict(kinds_of(program))
    return {(place, rounds): (flat_of(kinds[place], some), len(some)) for (place, rounds), some in Tracker(program, worths).worths.items()}


def orders(steps, waiting, chance):
    """The steps in another order, in which each stands behind those that it waits for."""
    names = [step[:2] for step in waiting]
    left, told = list(steps), []
    while left:
        seen = {step[:2] for step in told}
        free = [step for step in left if all(names[one] in seen for one in waiting[names.index(step[:2])][3])]
        told.append(chance.choice(free))
        left.remove(told[-1])
    return told


class Papers(unittest.TestCase):
    def test_the_list_itself(self):
        self.assertEqual(unchanged(paper, read_program("r row num n num : each x r add x n"), [[1, 2, 3], 5]),
                         [((1,), (), [6, 7, 8], 3), ((), (), ([3], [6, 7, 8]), 1)])
        self.assertEqual(unchanged(paper, read_program("t truth : pair not t one t"), [True]),
                         [((0,), (), [False], 1), ((1,), (), ([1], [True]), 1), ((), (), ([False], ([1], [True])), 1)])
        self.assertEqual(unchanged(paper, read_program("n num : times x n 7 add x x"), [2]),
                         [((1,), (), [7], 1), ((2,), (0,), [14], 1), ((2,), (1,), [28], 1), ((), (), [28], 1)])
        self.assertEqual(unchanged(paper, read_program("r row num : each x r times y x x add y x"), [[1, 0, 2]]),
                         [((1, 2), (0,), [2, 4], 2), ((1, 2), (1,), [6], 1), ((1,), (), [2, 0, 6], 3), ((), (), ([3], [2, 0, 6]), 1)])
        self.assertEqual(unchanged(paper, read_program("r row num : r"), [[1]]), [])

    def test_none_where_it_stops(self):
        self.assertIsNone(unchanged(paper, read_program(": div 1 0"), []))
        self.assertIsNone(unchanged(paper, read_program("r row num : each x r div 1 x"), [[1, 0]]))

    def test_programs_of_every_sign(self):
        signs, seen = set(), 0
        for seed in range(900):
            program, worths = Maker(seed).program()
            told = unchanged(paper, program, worths)
            if read(program, worths)[0] == "stops":
                self.assertIsNone(told)
                continue
            where = (program_text(program), worths)
            self.assertEqual(repr({step[:2]: step[2:] for step in sorted(told)}), repr(dict(sorted(tracked(program, worths).items()))), where)
            self.assertEqual([(*step[:2], step[3]) for step in told], [step[:3] for step in run_steps(program, worths)], where)
            self.assertTrue(no_list_twice(told, worths), where)
            self.assertIs(unchanged(is_paper, program, worths, told), True, where)
            seen += 1
            signs.update(program_text(program).split())
        self.assertGreater(seen, 300)
        self.assertLessEqual(set(SIGNS) - {"num", "name"}, signs)

    def test_told_is_the_askers_own(self):
        for text, worths in SEVERAL:
            told_own(paper, read_program(text), copy.deepcopy(worths))


class IsPaper(unittest.TestCase):
    def is_one(self, program, worths, thing):
        self.assertIs(unchanged(is_paper, program, worths, thing), True, (program_text(program), worths, thing))

    def is_none(self, program, worths, thing):
        self.assertIs(unchanged(is_paper, program, worths, thing), False, (program_text(program), worths, thing))

    def several(self):
        for text, worths in SEVERAL:
            program = read_program(text)
            yield program, worths, paper(program, worths)

    def test_other_orders(self):
        chance = random.Random(3)
        seen = set()
        for program, worths, told in self.several():
            waiting = waits(program, worths)
            for _ in range(40):
                thing = orders(told, waiting, chance)
                self.is_one(program, worths, thing)
                seen.add(repr(thing))
            # Any order at all: it is one just where each stands behind those that it waits for.
            names = [step[:2] for step in waiting]
            for _ in range(40):
                thing = list(told)
                chance.shuffle(thing)
                at = {step[:2]: number for number, step in enumerate(thing)}
                fine = all(at[names[one]] < at[step[:2]] for step in waiting for one in step[3])
                (self.is_one if fine else self.is_none)(program, worths, thing)
        self.assertGreater(len(seen), 30)

    def test_ahead_of_one_that_it_waits_for(self):
        for program, worths, told in self.several():
            waiting = waits(program, worths)
            names = [step[:2] for step in waiting]
            for step in waiting:
                for one in step[3]:
                    thing = list(told)
                    late = [other for other in thing if other[:2] == names[one]][0]
                    thing.remove(late)
                    self.is_none(program, worths, thing + [late])

    def test_steps_left_out_put_twice_and_put_in(self):
        for program, worths, told in self.several():
            for at, step in enumerate(told):
                self.is_none(program, worths, told[:at] + told[at + 1:])
                for where in range(len(told) + 1):
                    self.is_none(program, worths, told[:where] + [step] + told[where:])
                for other in told:
                    if other != step:
                        self.is_none(program, worths, told[:at] + [other] + told[at + 1:])
                self.is_none(program, worths, told[:at] + [(step[0] + (0,), *step[1:])] + told[at:])
                self.is_none(program, worths, told[:at] + [(step[0], step[1] + (0,), *step[2:])] + told[at:])
                self.is_none(program, worths, told[:at] + [None] + told[at:])

    def test_another_place_rounds_flat_or_many(self):
        for program, worths, told in self.several():
            for at, (place, rounds, flat, many) in enumerate(told):
                for step in [
                    (place + (0,), rounds, flat, many), (place[:-1] + (7,), rounds, flat, many), (None, rounds, flat, many), ("", rounds, flat, many),
                    (list(place), rounds, flat, many), (place, list(rounds), flat, many), (place, rounds + (0,), flat, many), (place, None, flat, many),
                    (place, rounds, flat, many + 1), (place, rounds, flat, many - 1), (place, rounds, flat, str(many)), (place, rounds, flat, None),
                    (place, rounds, None, many), (place, rounds, [], many), (place, rounds, [flat], many), (place, rounds, (flat,), many),
                    (place, rounds, flat), (place, rounds, flat, many, many), (place, rounds, many, flat), (rounds, place, flat, many) if place != rounds else (),
                    [place, rounds, flat, many], (), None, (([],), rounds, flat, many), (place, ([],), flat, many),
                ]:
                    self.is_none(program, worths, told[:at] + [step] + told[at + 1:])

    def changed(self, thing):
        """The thing with just one thing within it changed, in all ways."""
        if isinstance(thing, bool):
            return [int(thing), not thing, None]
        if isinstance(thing, int):
            return [thing + 1, thing - 1, str(thing)] + ([bool(thing)] if thing in (0, 1) else [])
        other = tuple(thing) if isinstance(thing, list) else list(thing)
        some = [other, None, thing + type(thing)([0])]
        for at, one in enumerate(thing):
            some += [thing[:at] + type(thing)([new]) + thing[at + 1:] for new in self.changed(one)]
            some.append(thing[:at] + thing[at + 1:])
        return some

    def test_one_thing_changed(self):
        for program, worths, told in self.several():
            for thing in self.changed(told):
                self.is_none(program, worths, thing)

    def test_papers_of_other_worths_and_programs(self):
        texts = ["a num b num : add a b", "a num b num : sub a b", "a num b num : mul a b", "a num b num : one add a b", "a num b num : let x add a b x"]
        told = [paper(read_program(text), [5, 3]) for text in texts]
        for at, text in enumerate(texts):
            for other, thing in enumerate(told):
                (self.is_one if other == at else self.is_none)(read_program(text), [5, 3], thing)
        self.is_none(read_program(texts[0]), [5, 4], told[0])
        # Other worths that come to the same steps have the same papers.
        self.is_one(read_program(texts[0]), [4, 4], told[0])
        self.is_none(read_program("r row num : each x r add x x"), [[1, 2]], paper(read_program("r row num : each x r add x x"), [[1, 3]]))

    def test_any_other_thing(self):
        for program, worths, _ in self.several():
            for thing in odd_things():
                self.is_none(program, worths, thing)
                self.is_none(program, worths, [thing])
                self.is_none(program, worths, [thing] * len(paper(program, worths)))
                self.is_none(program, worths, [(thing, thing, thing, thing)] * len(paper(program, worths)))

    def test_of_no_steps(self):
        program = read_program("r row num : let x r x")
        self.is_one(program, [[1]], [])
        for thing in [one for one in odd_things() if one != []] + [[[]], [((), (), ([1], [1]), 1)]]:
            self.is_none(program, [[1]], thing)

    def test_of_a_run_that_stops_no_thing_is_one(self):
        program = read_program("r row num : each x r div 6 x")
        for thing in odd_things() + [paper(program, [[1, 2]]), [], None, [((1,), (), [6], 1), ((), (), ([1], [6]), 1)], [((1,), (), [6], 1)]]:
            self.is_none(program, [[1, 0]], thing)
        self.is_none(read_program(": div 1 0"), [], [])

    def test_a_paper_is_asked_alone(self):
        program, worths = read_program("r row num n num : each x r add x n"), [[1, 2, 3], 5]
        self.is_one(program, worths, [((1,), (), [6, 7, 8], 3), ((), (), ([3], [6, 7, 8]), 1)])
        told = paper(program, worths)
        told[0][2].append(9)
        self.is_none(program, worths, told)
        self.is_one(program, worths, paper(program, worths))


if __name__ == "__main__":
    unittest.main()
