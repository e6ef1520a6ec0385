import unittest

from broadrow.errors import NoPlace
from broadrow.trees import (
    binding, free_names, is_name, is_tree, part_at, parts, places, put_at, with_parts,
)
from helper import (
    A, B, C, DEEP_KIND, GREAT, NUM, SIGNS, SIGNS_BY_FORM, TRUTH, Maker, chain, full_tree, name, num, odd_things,
    one_of_each_sign, pair, refusal, row, unchanged,
)

WHOLE = ("times", "x", ("long", A), ("let", "y", B, ("add", name("y"), C)), ("if", ("less", A, name("x")), B, ("sum", C)))


class Names(unittest.TestCase):
    def test_one_to_eight_small_letters(self):
        for text in ("a", "z", "x", "abcdefgh", "zzzzzzzz", "az"):
            self.assertIs(is_name(text), True, text)
        for text in ("", "abcdefghi", "A", "aB", "a1", "1a", "a b", "a_b", "a-b", " a", "a ", "a\n", "a\t", "`", "{", ":", "a:", "\u00e4"):
            self.assertIs(is_name(text), False, repr(text))

    def test_no_sign_and_not_truth_or_row(self):
        self.assertEqual(len(SIGNS), 32)
        for text in SIGNS + ["truth", "row"]:
            self.assertIs(is_name(text), False, text)

    def test_what_only_begins_with_a_sign(self):
        for text in SIGNS + ["truth", "row"]:
            if len(text) < 8:
                self.assertIs(is_name(text + "x"), True, text)
        for text in ("nums", "yess", "lets", "rows", "truths", "tim", "ro", "trut", "eachone", "noneof", "stops", "great", "is"):
            self.assertIs(is_name(text), True, text)

    def test_other_things(self):
        for thing in (None, True, False, 0, 1, ("a",), ["a"], (), [], ("name", "a")):
            self.assertIs(is_name(thing), False)


class WhatIsATree(unittest.TestCase):
    def test_each_sign(self):
        for tree in one_of_each_sign():
            self.assertIs(unchanged(is_tree, tree), True, tree)

    def test_a_field_more_or_less_or_none(self):
        for tree in one_of_each_sign():
            for thing in (tree[:-1], tree + (A,), tree + (None,), list(tree), tree[:1] + tree, (list(tree),), (tree,)):
                self.assertIs(is_tree(thing), False, thing)

    def test_a_part_that_is_no_tree(self):
        for tree in one_of_each_sign():
            for at in range(len(parts(tree))):
                for thing in (None, True, 0, 5, "a", (), [], ["yes"], ("yes", 1), ("nun",), NUM, ("num", -1), [A]):
                    some = list(parts(tree))
                    some[at] = thing
                    self.assertIs(is_tree(tree[:len(tree) - len(some)] + tuple(some)), False, (tree, thing))

    def test_numbers(self):
        for number in (0, 1, GREAT):
            self.assertIs(is_tree(("num", number)), True)
        for thing in (-1, GREAT + 1, -GREAT, 10 ** 59, True, False, None, "1", (1,), [1], A):
            self.assertIs(is_tree(("num", thing)), False)
            self.assertIs(is_tree(("not", ("num", thing))), False)

    def test_names_and_kinds_within(self):
        for thing in ("", "abcdefghi", "row", "truth", "add", "name", "X", None, True, 1, A, ["x"], ("x",)):
            for tree in (("name", thing), ("let", thing, A, B), ("each", thing, A, B), ("times", thing, A, B, C)):
                self.assertIs(is_tree(tree), False, tree)
        for kind in (NUM, TRUTH, row(NUM), pair(NUM, TRUTH), DEEP_KIND):
            self.assertIs(is_tree(("none", kind)), True)
        for thing in (row(DEEP_KIND), None, "num", ["num"], (), ("row",), ("yes",), True):
            self.assertIs(is_tree(("none", thing)), False)

    def test_other_things(self):
        for thing in odd_things():
            self.assertIs(unchanged(is_tree, thing), False, repr(thing)[:80])
        for thing in ((["not"], A), (("not",), A), (None, A), (True, A), ("Not", A), ("not ", A), ("row", A), ("truth",)):
            self.assertIs(is_tree(thing), False)

    def test_trees_have_no_bound_of_their_own(self):
        self.assertIs(is_tree(chain(55)), True)
        self.assertIs(is_tree(chain(55, None)), False)
        self.assertIs(is_tree(full_tree(1000)), True)
        self.assertIs(is_tree(("let", "x", A, ("let", "x", A, B))), True)


class Parts(unittest.TestCase):
    def test_parts_and_with_parts(self):
        some = (num(1), ("yes",), ("no",))
        for tree in one_of_each_sign():
            many = {"leaf": 0, "one": 1, "two": 2}
            form = [one for one in SIGNS_BY_FORM if tree[0] in SIGNS_BY_FORM[one]][0]
            wanted = many[form] if form in many else {"let": 2, "if": 3, "each": 2, "times": 3}[tree[0]]
            self.assertEqual(unchanged(parts, tree), (A, B, C)[:wanted])
            self.assertIsInstance(parts(tree), tuple)
            ahead = tree[:len(tree) - wanted]
            self.assertEqual(unchanged(with_parts, tree, some[:wanted]), ahead + some[:wanted])
            self.assertEqual(unchanged(with_parts, tree, list(some[:wanted])), ahead + some[:wanted])
            self.assertEqual(with_parts(tree, parts(tree)), tree)

    def test_a_name_that_looks_like_a_part_stays(self):
        self.assertEqual(with_parts(("times", "x", A, B, C), [C, A, B]), ("times", "x", C, A, B))
        self.assertEqual(with_parts(("if", A, B, C), (B, C, A)), ("if", B, C, A))

    def test_a_list_of_parts_is_not_kept(self):
        some = [num(1), num(2)]
        tree = with_parts(("add", A, B), some)
        some[0] = num(3)
        self.assertEqual(tree, ("add", num(1), num(2)))

    def test_binding(self):
        for tree in one_of_each_sign():
            self.assertEqual(unchanged(binding, tree), {"let": 1, "each": 1, "times": 2}.get(tree[0]))


class Places(unittest.TestCase):
    def test_in_the_order_of_doing(self):
        self.assertEqual(places(A), [()])
        self.assertEqual(places(("add", A, B)), [(0,), (1,), ()])
        self.assertEqual(places(("if", ("not", A), B, ("one", C))), [(0, 0), (0,), (1,), (2, 0), (2,), ()])
        self.assertEqual(unchanged(places, WHOLE), [
            (0, 0), (0,), (1, 0), (1, 1, 0), (1, 1, 1), (1, 1), (1,),
            (2, 0, 0), (2, 0, 1), (2, 0), (2, 1), (2, 2, 0), (2, 2), (2,), (),
        ])

    def test_the_list_is_the_askers_own(self):
        told = places(WHOLE)
        told.append("more")
        told[0] = None
        self.assertEqual(len(places(WHOLE)), 15)
        self.assertEqual(places(WHOLE)[0], (0, 0))

    def test_part_at_each_place(self):
        wanted = [
            A, ("long", A), B, name("y"), C, ("add", name("y"), C), WHOLE[3], A, name("x"), ("less", A, name("x")), B, C,
            ("sum", C), WHOLE[4], WHOLE,
        ]
        self.assertEqual([unchanged(part_at, WHOLE, place) for place in places(WHOLE)], wanted)

    def test_put_at_each_place(self):
        self.assertEqual(put_at(WHOLE, (), B), B)
        self.assertEqual(put_at(("add", A, B), (0,), C), ("add", C, B))
        self.assertEqual(put_at(("add", A, B), (1,), C), ("add", A, C))
        self.assertEqual(put_at(WHOLE, (1, 1, 0), num(9)), ("times", "x", ("long", A), ("let", "y", B, ("add", num(9), C)), WHOLE[4]))
        mark = ("none", NUM)
        for place in places(WHOLE):
            told = unchanged(put_at, WHOLE, place, mark)
            self.assertIs(is_tree(told), True)
            self.assertEqual(part_at(told, place), mark)
            self.assertEqual(put_at(told, place, part_at(WHOLE, place)), WHOLE)
            for other in places(WHOLE):
                if other[:len(place)] != place and place[:len(other)] != other:
                    self.assertEqual(part_at(told, other), part_at(WHOLE, other))

    def test_places_that_are_none(self):
        for place in ((3,), (-1,), (0, 1), (0, -1), (0, 0, 0), (1, 2), (1, 1, 2), (2, 1, 0), (0, 0, 0, 0, 0), (GREAT,), (10 ** 59,), (-3, 0), (2, -1)):
            self.assertEqual(refusal(NoPlace, part_at, WHOLE, place).place, place)
            self.assertEqual(refusal(NoPlace, put_at, WHOLE, place, A).place, place)
        for tree in one_of_each_sign():
            for number in (-1, len(parts(tree)), 5):
                self.assertEqual(refusal(NoPlace, part_at, tree, (number,)).place, (number,))
                self.assertEqual(refusal(NoPlace, put_at, tree, (number,), A).place, (number,))

    def test_made_trees(self):
        maker = Maker(7)
        for _ in range(60):
            (_, tree), _ = maker.program()
            told = places(tree)
            self.assertEqual(len(set(told)), len(told))
            self.assertEqual(told[-1], ())
            for place in told:
                for number in range(len(parts(part_at(tree, place)))):
                    self.assertLess(told.index(place + (number,)), told.index(place))


class FreeNames(unittest.TestCase):
    def test_each_once_and_sorted(self):
        self.assertEqual(free_names(("yes",)), [])
        self.assertEqual(free_names(B), ["b"])
        self.assertEqual(free_names(("add", B, A)), ["a", "b"])
        self.assertEqual(free_names(("if", C, ("add", A, C), ("add", C, B))), ["a", "b", "c"])
        self.assertEqual(free_names(("add", name("bb"), ("add", name("b"), name("ab")))), ["ab", "b", "bb"])
        self.assertEqual(unchanged(free_names, WHOLE), ["a", "b", "c"])

    def test_what_is_bound_and_where(self):
        x = name("x")
        for tree, wanted in [
            (("let", "x", A, x), ["a"]), (("let", "x", x, A), ["a", "x"]), (("let", "x", x, x), ["x"]),
            (("each", "x", A, x), ["a"]), (("each", "x", x, A), ["a", "x"]), (("each", "x", x, x), ["x"]),
            (("times", "x", A, B, x), ["a", "b"]), (("times", "x", x, B, x), ["b", "x"]), (("times", "x", A, x, x), ["a", "x"]),
            (("let", "x", A, ("let", "y", x, ("add", x, name("y")))), ["a"]), (("let", "y", x, ("let", "x", A, x)), ["a", "x"]),
            (("add", ("let", "x", A, x), x), ["a", "x"]), (("add", x, ("let", "x", A, x)), ["a", "x"]),
            (("let", "x", ("let", "x", A, x), x), ["a"]), (("let", "x", A, ("let", "x", x, x)), ["a"]),
            (("each", "x", ("each", "y", A, name("y")), ("add", x, name("y"))), ["a", "y"]),
        ]:
            self.assertEqual(unchanged(free_names, tree), wanted, tree)

    def test_the_list_is_the_askers_own(self):
        told = free_names(WHOLE)
        told.append("z")
        self.assertEqual(free_names(WHOLE), ["a", "b", "c"])


if __name__ == "__main__":
    unittest.main()
