import unittest

from broadrow.errors import NoKind
from broadrow.kinding import kinds_of
from broadrow.kinds import is_kind, read_kind
from broadrow.programs import read_program
from broadrow.trees import places
from helper import (
    DEEP_KIND, NUM, SIGNS, SIGNS_BY_FORM, TRUTH, Maker, name, no_list_twice, num, pair, refusal, row, unchanged,
)

SAMPLES = [
    NUM, TRUTH, row(NUM), row(TRUTH), row(row(NUM)), row(row(TRUTH)), row(row(row(NUM))), pair(NUM, TRUTH),
    pair(row(NUM), NUM), row(pair(NUM, TRUTH)), DEEP_KIND, row(row(row(row(TRUTH)))), pair(NUM, row(row(row(NUM)))),
]


def one_part(sign, kind):
    """What point 10 says of a sign of one part."""
    if sign == "not":
        return TRUTH if kind == TRUTH else None
    if sign in ("first", "second"):
        return kind[1 if sign == "first" else 2] if kind[0] == "pair" else None
    if sign == "one":
        return row(kind)
    if sign == "upto":
        return row(NUM) if kind == NUM else None
    if sign == "long":
        return NUM if kind[0] == "row" else None
    if sign in ("sum", "most"):
        return NUM if kind == row(NUM) else None
    if sign == "sums":
        return row(NUM) if kind == row(NUM) else None
    return kind[1] if kind[0] == "row" and kind[1][0] == "row" else None


def two_parts(sign, one, other):
    """What point 10 says of a sign of two parts."""
    if sign in ("add", "sub", "mul", "div", "rest"):
        return NUM if one == other == NUM else None
    if sign == "less":
        return TRUTH if one == other == NUM else None
    if sign == "same":
        return TRUTH if one == other and one in (NUM, TRUTH) else None
    if sign == "both":
        return TRUTH if one == other == TRUTH else None
    if sign == "pair":
        return pair(one, other)
    if one[0] != "row":
        return None
    if sign == "pick":
        return one[1] if other == NUM else None
    if sign == "join":
        return one if one == other else None
    if sign == "keep":
        return one if other == row(TRUTH) else None
    return row(one) if other == row(NUM) else None


def own(kind):
    return kind if kind is not None and is_kind(kind) else None


class Kinds(unittest.TestCase):
    def check(self, heads, tree, wanted, place=()):
        program = (tuple(heads), tree)
        if wanted is None:
            self.assertEqual(refusal(NoKind, kinds_of, program).place, place, program)
        else:
            told = unchanged(kinds_of, program)
            self.assertEqual(told[-1], ((), wanted), program)
            self.assertEqual([one for one, _ in told], places(tree))

    def test_signs_of_no_parts(self):
        self.check([], num(5), NUM)
        self.check([], ("yes",), TRUTH)
        self.check([], ("no",), TRUTH)
        for kind in SAMPLES:
            self.check([("a", kind)], name("a"), kind)
            self.check([], ("none", kind), own(row(kind)))

    def test_signs_of_one_part(self):
        for sign in SIGNS_BY_FORM["one"]:
            for kind in SAMPLES:
                self.check([("a", kind)], (sign, name("a")), own(one_part(sign, kind)))

    def test_signs_of_two_parts(self):
        for sign in SIGNS_BY_FORM["two"]:
            for one in SAMPLES:
                for other in SAMPLES:
                    heads = [("a", one), ("b", other)]
                    self.check(heads, (sign, name("a"), name("b")), own(two_parts(sign, one, other)))

    def test_let(self):
        for one in SAMPLES:
            self.check([("a", one)], ("let", "x", name("a"), name("x")), one)
            for other in SAMPLES:
                heads = [("a", one), ("b", other)]
                self.check(heads, ("let", "x", name("a"), name("b")), other)
                self.check(heads, ("let", "x", name("a"), ("pair", name("x"), name("b"))), own(pair(one, other)), (1,))

    def test_if(self):
        tree = ("if", name("a"), name("b"), name("c"))
        for one in SAMPLES:
            for other in SAMPLES:
                self.check([("a", TRUTH), ("b", one), ("c", other)], tree, one if one == other else None)
            self.check([("a", one), ("b", NUM), ("c", NUM)], tree, NUM if one == TRUTH else None)

    def test_each(self):
        for one in SAMPLES:
            is_row = one[0] == "row"
            self.check([("a", one)], ("each", "x", name("a"), name("x")), one if is_row else None)
            for other in SAMPLES:
                heads = [("a", one), ("b", other)]
                self.check(heads, ("each", "x", name("a"), name("b")), own(row(other)) if is_row else None)

    def test_times(self):
        for one in SAMPLES:
            heads = [("a", one), ("b", TRUTH)]
            self.check(heads, ("times", "x", name("a"), name("b"), name("x")), TRUTH if one == NUM else None)
            for other in SAMPLES:
                heads = [("a", NUM), ("b", one), ("c", other)]
                self.check(heads, ("times", "x", name("a"), name("b"), name("c")), one if one == other else None)
                self.check(heads, ("times", "x", name("a"), name("b"), name("x")), one)

    def test_all_signs_were_seen(self):
        seen = SIGNS_BY_FORM["one"] + SIGNS_BY_FORM["two"] + SIGNS_BY_FORM["leaf"] + ("let", "if", "each", "times")
        self.assertEqual(sorted(seen), sorted(SIGNS))
        self.assertEqual(len(set(seen)), 32)

    def test_all_pieces_in_the_order_of_doing(self):
        program = read_program("r row num n num : times y n r each x y if less x 0 sub 0 x let z add x n z")
        wanted = [
            ((0,), "num"), ((1,), "row num"), ((2, 0), "row num"), ((2, 1, 0, 0), "num"), ((2, 1, 0, 1), "num"),
            ((2, 1, 0), "truth"), ((2, 1, 1, 0), "num"), ((2, 1, 1, 1), "num"), ((2, 1, 1), "num"),
            ((2, 1, 2, 0, 0), "num"), ((2, 1, 2, 0, 1), "num"), ((2, 1, 2, 0), "num"), ((2, 1, 2, 1), "num"),
            ((2, 1, 2), "num"), ((2, 1), "num"), ((2,), "row num"), ((), "row num"),
        ]
        self.assertEqual(unchanged(kinds_of, program), [(place, read_kind(text)) for place, text in wanted])

    def test_a_name_has_the_kind_of_what_binds_it_there(self):
        self.assertEqual(kinds_of(read_program(": add let x 1 x let x yes if x 1 2"))[-1], ((), NUM))
        self.assertEqual(kinds_of(read_program(": let x let x yes not x if x 1 2"))[-1], ((), NUM))
        self.assertEqual(kinds_of(read_program("r row row num : each x r each y x pair x y"))[-1][1], row(row(pair(row(NUM), NUM))))

    def test_made_programs_have_kinds(self):
        maker = Maker(11)
        for _ in range(200):
            program, _ = maker.program()
            told = kinds_of(program)
            self.assertEqual([place for place, _ in told], places(program[1]))
            self.assertTrue(all(is_kind(kind) for _, kind in told))

    def test_the_list_is_the_askers_own(self):
        program = read_program("r row num : each x r add x 1")
        told = kinds_of(program)
        again = kinds_of(program)
        self.assertTrue(no_list_twice(told, again))
        told.pop()
        told[0] = None
        self.assertEqual(kinds_of(program), again)
        self.assertEqual(len(again), 5)


class Refused(unittest.TestCase):
    def test_the_place_of_the_first_piece_that_has_none(self):
        for text, place in [
            (": x", ()), (": add 1 x", (1,)), (": add x y", (0,)), (": not 1", ()), (": add 1 not 1", (1,)), (": add not 1 x", (0,)),
            (": add yes 1", ()), (": if 1 x 2", (1,)), (": if 1 2 yes", ()), (": if yes 2 no", ()), (": if x y z", (0,)),
            (": if 1 2 not 3", (2,)), (": let x y x", (0,)), (": let x 1 not x", (1,)), (": let x 1 y", (1,)), (": let x x 1", (0,)),
            (": add let x 1 x x", (1,)), (": each x x 1", (0,)), (": add 1 each x one 1 x", ()), (": pick each x one 1 x not yes", ()),
            (": each x one 1 not x", (1,)), (": each x one y z", (0, 0)), (": times x 1 x x", (1,)), (": times x x 1 x", (0,)),
            (": times x 1 2 not x", (2,)), (": times x 1 2 yes", ()), (": times x 1 yes 2", ()), (": sum one yes", ()),
            (": flat one 1", ()), (": same 1 yes", ()), (": same one 1 one 1", ()), (": join none num none truth", ()),
            (": keep none num none num", ()), (": cut none num none truth", ()), (": pick 1 none num", ()), (": first 1", ()),
            (": pair not 1 not 2", (0,)), (": pair pair 1 x y", (0, 1)),
        ]:
            self.assertEqual(refusal(NoKind, kinds_of, read_program(text)).place, place, text)

    def test_each_sign_somewhere_within(self):
        heads = "t truth n num r row num p pair num num "
        for text in [
            "not n", "first n", "second n", "upto t", "long n", "sum n", "sums n", "most t", "flat r", "add n t", "sub t n", "mul r n",
            "div n r", "rest t t", "less t t", "same r r", "both n t", "pick n n", "join r n", "keep r r", "cut r n", "let x nn x", "if n n n",
            "each x n x", "times x t n x", "nn", "none row row row row num", "one none row row row num", "pair n none row row row num",
        ]:
            sub_place = {"let x nn x": (0,)}.get(text, ())
            self.assertEqual(refusal(NoKind, kinds_of, read_program(heads + ": " + text)).place, sub_place, text)
            self.assertEqual(refusal(NoKind, kinds_of, read_program(heads + ": pair n " + text)).place, (1,) + sub_place, text)
            self.assertEqual(refusal(NoKind, kinds_of, read_program(heads + ": let y n pair " + text + " zz")).place, (1, 0) + sub_place, text)

    def test_a_kind_deeper_than_five(self):
        deep = "r row row row row num s row row row num : "
        for text, place in [
            ("one r", ()), ("pair 1 r", ()), ("pair r 1", ()), ("none row row row row num", ()), ("each x one 1 r", ()),
            ("cut r one 1", ()), ("let x one s one x", (1,)), ("each x r s", None), ("one s", None), ("pair s s", None),
            ("cut s one 1", None), ("let x r x", None), ("each x s one x", None), ("each x r one x", ()),
            ("pick each x one 1 one r 0", (0, 1)),
        ]:
            program = read_program(deep + text)
            if place is None:
                self.assertEqual(kinds_of(program)[-1][0], ())
            else:
                self.assertEqual(refusal(NoKind, kinds_of, program).place, place, text)

    def test_b_of_an_each_over_no_row_is_not_looked_at(self):
        for text, place in [
            (": each x 1 y", ()), (": each x yes not 1", ()), ("p pair num num : each x p not 1", ()), (": add each x 1 y z", (0,)),
            (": each x y z", (0,)), (": each x one 1 y", (1,)), (": each x 1 each z 2 w", ()),
        ]:
            self.assertEqual(refusal(NoKind, kinds_of, read_program(text)).place, place, text)

    def test_c_of_a_times_over_no_num_is_not_looked_at(self):
        for text, place in [
            (": times x yes 1 y", ()), (": times x yes y z", (1,)), (": times x yes not 1 z", (1,)), (": times x one 1 2 not 1", ()),
            (": times x 1 2 y", (2,)), (": add 1 times x no 1 z", (1,)), (": times x y yes z", (0,)),
        ]:
            self.assertEqual(refusal(NoKind, kinds_of, read_program(text)).place, place, text)


if __name__ == "__main__":
    unittest.main()
