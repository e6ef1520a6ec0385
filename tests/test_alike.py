import copy
import unittest

from broadrow.alike import alike
from helper import odd_things, unchanged


class Alike(unittest.TestCase):
    def test_each_thing_is_like_itself_and_its_copies(self):
        for thing in odd_things() + [[1, (True, "a", None), []], "num", -5]:
            self.assertIs(unchanged(alike, thing, thing), True)
            self.assertIs(unchanged(alike, thing, copy.deepcopy(thing)), True)

    def test_no_two_odd_things_are_alike(self):
        things = odd_things()
        for at, one in enumerate(things):
            for number, other in enumerate(things):
                if at != number:
                    self.assertIs(alike(one, other), repr(one) == repr(other), (one, other))

    def test_what_is_one_to_python_is_told_apart(self):
        for one, other in [(True, 1), (False, 0), ([True], [1]), ((0,), (False,)), ([], ()), ([[]], [()]), (("a", [1]), ("a", [True])), (0, None), ("", None),
                           ("", []), ("", ()), ((), None), ("1", 1), ([1, 2], [1]), ([1], [1, 2]), ([1, 2], [2, 1]), ("ab", ["a", "b"])]:
            self.assertIs(alike(one, other), False, (one, other))
            self.assertIs(alike(other, one), False, (one, other))

    def test_deep_things(self):
        one, other, third = 1, 1, True
        for _ in range(59):
            one, other, third = [one], [other], [third]
        self.assertIs(alike(one, other), True)
        self.assertIs(alike(one, third), False)


if __name__ == "__main__":
    unittest.main()
