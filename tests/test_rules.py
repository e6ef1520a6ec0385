import itertools
import unittest

from broadrow.errors import NoRule
from broadrow.kinding import kinds_of
from broadrow.ledgers import ledger
from broadrow.plain import read
from broadrow.programs import is_program, program_text, read_program
from broadrow.rules import fitting, is_sure, now_at, put_otherwise
from broadrow.trees import part_at, places
from helper import GREAT, SIGNS, TRUTH, NUM, Ruler, full_tree, num, odd_things, one_of_each_sign, refusal, row, told_own, unchanged

NAMES = ("alias", "alike", "count", "drop", "empty", "first", "joined", "known", "never", "notnot", "nought", "ones", "only", "picked", "reckon",
         "second", "self", "share", "turn", "yes")

STOPPING = ("sum", "sums", "most", "upto", "flat", "add", "sub", "mul", "div", "rest", "pick", "join", "keep", "cut", "times")

HEADS = "a num b num t truth u truth r row num s row num : "

# Of each row of each rule a tree to which it fits, what comes of it, and where those places go that go somewhere.
ROWS = [
    ("drop", "let x not yes add a b", "add a b", {(1,): (), (1, 0): (0,), (1, 1): (1,)}),
    ("drop", "let x let y one a y add a b", "add a b", {(1,): (), (1, 0): (0,), (1, 1): (1,)}),
    ("alias", "let x a add x mul x b", "add a mul a b", {(1,): (), (1, 0): (0,), (1, 1): (1,), (1, 1, 0): (1, 0), (1, 1, 1): (1, 1)}),
    ("alias", "let x a div b a", "div b a", {(1,): (), (1, 0): (0,), (1, 1): (1,)}),
    ("alias", "let x a each y r let z x div z y", "each y r let z a div z y",
     {(1,): (), (1, 0): (0,), (1, 1): (1,), (1, 1, 0): (1, 0), (1, 1, 1): (1, 1), (1, 1, 1, 0): (1, 1, 0), (1, 1, 1, 1): (1, 1, 1)}),
    ("known", "if yes add a b div a b", "add a b", {(1,): (), (1, 0): (0,), (1, 1): (1,)}),
    ("known", "if no add a b div a b", "div a b", {(2,): (), (2, 0): (0,), (2, 1): (1,)}),
    ("alike", "if not t add a b add a b", "add a b", {(1,): (), (1, 0): (0,), (1, 1): (1,), (2,): (), (2, 0): (0,), (2, 1): (1,)}),
    ("turn", "if not less a add a b div a b b", "if less a add a b b div a b",
     {(): (), (0, 0): (0,), (0, 0, 0): (0, 0), (0, 0, 1): (0, 1), (0, 0, 1, 0): (0, 1, 0), (0, 0, 1, 1): (0, 1, 1), (1,): (2,), (1, 0): (2, 0),
      (1, 1): (2, 1), (2,): (1,)}),
    ("yes", "both yes less a div a b", "less a div a b", {(1,): (), (1, 0): (0,), (1, 1): (1,), (1, 1, 0): (1, 0), (1, 1, 1): (1, 1)}),
    ("yes", "both less a div a b yes", "less a div a b", {(0,): (), (0, 0): (0,), (0, 1): (1,), (0, 1, 0): (1, 0), (0, 1, 1): (1, 1)}),
    ("yes", "both yes yes", "yes", {(1,): ()}),
    ("notnot", "not not less div a b a", "less div a b a", {(0, 0): (), (0, 0, 0): (0,), (0, 0, 1): (1,), (0, 0, 0, 0): (0, 0), (0, 0, 0, 1): (0, 1)}),
    ("nought", "add mul a b 0", "mul a b", {(0,): (), (0, 0): (0,), (0, 1): (1,)}),
    ("nought", "sub mul a b 0", "mul a b", {(0,): (), (0, 0): (0,), (0, 1): (1,)}),
    ("nought", "add 0 mul a b", "mul a b", {(1,): (), (1, 0): (0,), (1, 1): (1,)}),
    ("nought", "mul add a b 1", "add a b", {(0,): (), (0, 0): (0,), (0, 1): (1,)}),
    ("nought", "div add a b 1", "add a b", {(0,): (), (0, 0): (0,), (0, 1): (1,)}),
    ("nought", "mul 1 add a b", "add a b", {(1,): (), (1, 0): (0,), (1, 1): (1,)}),
    ("nought", "add 0 0", "0", {(0,): ()}),
    ("nought", "mul 1 1", "1", {(0,): ()}),
    ("reckon", "add 2 3", "5", {}),
    ("reckon", "sub 5 3", "2", {}),
    ("reckon", "mul 2 3", "6", {}),
    ("reckon", "sub 3 3", "0", {}),
    ("reckon", "add 999999999999999999 1", "1000000000000000000", {}),
    ("reckon", "mul 0 7", "0", {}),
    ("first", "first pair div a b not t", "div a b", {(0, 0): (), (0, 0, 0): (0,), (0, 0, 1): (1,)}),
    ("second", "second pair not t div a b", "div a b", {(0, 1): (), (0, 1, 0): (0,), (0, 1, 1): (1,)}),
    ("only", "pick one div a b 0", "div a b", {(0, 0): (), (0, 0, 0): (0,), (0, 0, 1): (1,)}),
    ("only", "flat one sums r", "sums r", {(0, 0): (), (0, 0, 0): (0,)}),
    ("empty", "join none num sums r", "sums r", {(1,): (), (1, 0): (0,)}),
    ("empty", "join sums r none num", "sums r", {(0,): (), (0, 0): (0,)}),
    ("empty", "join none num none num", "none num", {(1,): ()}),
    ("self", "each x sums r x", "sums r", {(0,): (), (0, 0): (0,)}),
    ("count", "long each x sums r pair x t", "long sums r", {(): (), (0, 0): (0,), (0, 0, 0): (0, 0)}),
    ("ones", "flat each x sums r one div a x", "each x sums r div a x",
     {(0,): (), (0, 0): (0,), (0, 0, 0): (0, 0), (0, 1, 0): (1,), (0, 1, 0, 0): (1, 0), (0, 1, 0, 1): (1, 1)}),
    ("never", "times x 0 div a b mul x x", "div a b", {(1,): (), (1, 0): (0,), (1, 1): (1,)}),
    ("picked", "pick each x sums r one x div a b", "let x pick sums r div a b one x",
     {(): (0,), (0, 0): (0, 0), (0, 0, 0): (0, 0, 0), (0, 1): (1,), (0, 1, 0): (1, 0), (1,): (0, 1), (1, 0): (0, 1, 0), (1, 1): (0, 1, 1)}),
    ("picked", "pick each x each y r less y a pair x t b", "let x pick each y r less y a b pair x t",
     {(): (0,), (0, 0): (0, 0), (0, 0, 0): (0, 0, 0), (0, 0, 1): (0, 0, 1), (0, 0, 1, 0): (0, 0, 1, 0), (0, 0, 1, 1): (0, 0, 1, 1), (0, 1): (1,),
      (0, 1, 0): (1, 0), (0, 1, 1): (1, 1), (1,): (0, 1)}),
    ("joined", "each x each y sums r one y div a sub long x b", "each y sums r let x one y div a sub long x b",
     {(0,): (), (0, 0): (0,), (0, 0, 0): (0, 0), (0, 1): (1, 0), (0, 1, 0): (1, 0, 0), (1,): (1, 1), (1, 0): (1, 1, 0), (1, 1): (1, 1, 1),
      (1, 1, 0): (1, 1, 1, 0), (1, 1, 0, 0): (1, 1, 1, 0, 0), (1, 1, 1): (1, 1, 1, 1)}),
    ("joined", "each x each y sums r div a y one x", "each y sums r let x div a y one x",
     {(0,): (), (0, 0): (0,), (0, 0, 0): (0, 0), (0, 1): (1, 0), (0, 1, 0): (1, 0, 0), (0, 1, 1): (1, 0, 1), (1,): (1, 1), (1, 0): (1, 1, 0)}),
    ("joined", "each x each y let y r y let x one y x let z x z", "each y let y r y let x let x one y x let z x z",
     {(0,): (), (0, 0): (0,), (0, 0, 0): (0, 0), (0, 0, 1): (0, 1), (0, 1): (1, 0), (0, 1, 0): (1, 0, 0), (0, 1, 0, 0): (1, 0, 0, 0),
      (0, 1, 1): (1, 0, 1), (1,): (1, 1), (1, 0): (1, 1, 0), (1, 1): (1, 1, 1)}),
    ("share", "mul div a b div a b", "let c div a b mul c c", {(): (1,), (0,): (0,), (0, 0): (0, 0), (0, 1): (0, 1)}),
    ("share", "add let x sum r x let x sum r x", "let c let x sum r x add c c",
     {(): (1,), (0,): (0,), (0, 0): (0, 0), (0, 0, 0): (0, 0, 0), (0, 1): (0, 1)}),
]

# Of each rule trees to which it doesn't fit, by each of its conditions alone.
MISFITS = [
    ("drop", "let x add a b a"), ("drop", "let x one sum r a"), ("drop", "let x not yes not x"), ("drop", "let x one a let y x b"), ("drop", "add a b"),
    ("alias", "let x 5 add x x"), ("alias", "let x one a x"), ("alias", "each x r x"),
    ("known", "if t a b"), ("known", "if not no a b"), ("known", "both yes t"),
    ("alike", "if t a b"), ("alike", "if less 0 add a b a a"), ("alike", "if t add a b add b a"),
    ("turn", "if t a b"), ("turn", "if both not t t a b"), ("turn", "not t"),
    ("yes", "both t u"), ("yes", "both no t"), ("yes", "both t no"), ("yes", "both not yes t"), ("yes", "same yes t"), ("yes", "same t yes"),
    ("notnot", "not t"), ("notnot", "not both not t u"), ("notnot", "t"),
    ("nought", "add a 1"), ("nought", "sub 0 a"), ("nought", "sub a 1"), ("nought", "mul a 0"), ("nought", "mul 0 a"), ("nought", "div 1 a"),
    ("nought", "div a 0"), ("nought", "div a 2"), ("nought", "rest a 1"), ("nought", "rest a 0"), ("nought", "less a 0"), ("nought", "same a 0"),
    ("nought", "add a b"), ("nought", "pair a 0"), ("nought", "add 1 a"), ("nought", "mul 2 a"),
    ("reckon", "add a 2"), ("reckon", "add 2 a"), ("reckon", "sub 2 3"), ("reckon", "add 1000000000000000000 1"), ("reckon", "mul 1000000000000000000 2"),
    ("reckon", "div 6 3"), ("reckon", "rest 6 4"), ("reckon", "less 1 2"), ("reckon", "same 1 1"), ("reckon", "mul 1000000000000000000 1000000000000000000"),
    ("first", "first pair a add a b"), ("first", "first first pair pair a b t"), ("first", "second pair a b"), ("first", "first let x pair a b x"),
    ("second", "second pair add a b a"), ("second", "second first pair pair a b t"), ("second", "first pair a b"),
    ("only", "pick one a 1"), ("only", "pick one a b"), ("only", "pick r 0"), ("only", "flat each x r one x"), ("only", "flat cut r s"), ("only", "long one a"),
    ("empty", "join r s"), ("empty", "join one a r"), ("empty", "pair none num r"), ("empty", "keep none num none truth"), ("empty", "long none num"),
    ("self", "each x r a"), ("self", "each x r one x"), ("self", "let x r x"), ("self", "times x 2 a x"), ("self", "each x r let y x y"),
    ("count", "long each x r add x 1"), ("count", "long r"), ("count", "sum each x r x"), ("count", "long each x r long upto x"),
    ("ones", "flat each x r upto x"), ("ones", "flat cut r s"), ("ones", "long each x r one x"), ("ones", "flat each x r let y x one y"),
    ("never", "times x 1 a b"), ("never", "times x a a b"), ("never", "times x sub 1 1 a b"), ("never", "times x long none num a b"),
    ("picked", "pick each x cut r s one x b"), ("picked", "pick each x each y r pair y y first x b"), ("picked", "pick each x each y r one y x b"),
    ("picked", "pick each x r add x 1 b"), ("picked", "pick r b"), ("picked", "long each x r x"),
    ("joined", "each x each y r add y 1 add x 1"), ("joined", "each x each x r one x long x"), ("joined", "each x each y r one y let y x y"),
    ("joined", "each x each y r one y sum each y x y"), ("joined", "each x r x"), ("joined", "each x sums r x"),
    ("joined", "each x each y r one y times y 2 long x y"),
    ("share", "add a a"), ("share", "pair let x a x let x a x"), ("share", "add mul a b mul b a"), ("share", "add 1 2"), ("share", "if t 1 1"),
    ("share", "times x 2 1 1"), ("share", "let x 1 1"), ("share", "each x r r"), ("share", "pair let x a let y x y let x a let y x y"),
]

# The tree T at a place of a greater one.
AROUND = [("T", ()), ("pair 1 T", (1,)), ("pair T 1", (0,)), ("each q r pair q if less q 2 T T", (1, 1, 1)), ("let q T pair q q", (0,)),
          ("times q 2 pair T 1 pair T add second q 1", (2, 0))]


def program_of(tree):
    return read_program(HEADS + tree)


def misfit(program, rule, place):
    return refusal(NoRule, unchanged, put_otherwise, program, rule, place)


class Sure(unittest.TestCase):
    def test_each_sign(self):
        for tree in one_of_each_sign():
            self.assertIs(unchanged(is_sure, tree), tree[0] not in STOPPING, tree)
        self.assertEqual(len(set(SIGNS) - set(STOPPING)), 17)

    def test_deep_within_others(self):
        for tree in one_of_each_sign():
            deep = ("let", "q", ("if", ("yes",), ("each", "p", ("one", tree), ("no",)), ("none", TRUTH)), ("pair", ("name", "q"), ("not", ("yes",))))
            self.assertIs(is_sure(deep), tree[0] not in STOPPING, tree)
            self.assertIs(is_sure(("pair", num(1), ("pair", num(2), ("if", ("no",), num(1), tree)))), tree[0] not in STOPPING, tree)

    def test_sure_ones_stop_nowhere(self):
        for seed in range(300):
            program, worths = Ruler(seed).program(4)
            if is_sure(program[1]):
                self.assertEqual(read(program, worths)[0], "is")


class Fits(unittest.TestCase):
    def test_all_rules_are_here(self):
        self.assertEqual(sorted({one[0] for one in ROWS}), list(NAMES))
        self.assertEqual(sorted({one[0] for one in MISFITS}), list(NAMES))

    def test_each_row(self):
        for rule, before, after, _ in ROWS:
            for around, place in AROUND:
                program = program_of(around.replace("T", before))
                self.assertIn((rule, place), unchanged(fitting, program), (rule, before))
                told = unchanged(put_otherwise, program, rule, place)
                # In several of the surroundings the tree stands twice: the other one stays.
                tree = program_of(around.replace("T", after, 1).replace("T", before) if place != (2, 0) else around.replace("T", before, 1).replace("T", after))[1]
                if rule == "share":
                    tree = self.shared(program, place)
                self.assertEqual(told, (program[0], tree), (rule, before, around))
                self.assertTrue(is_program(told))

    def shared(self, program, place):
        tree = part_at(program[1], place)
        fresh = [one for one in ("c", "d") if f" {one} " not in program_text(program)][0]
        inner = ("let", fresh, tree[1], (tree[0], ("name", fresh), ("name", fresh)))
        whole = inner
        for at in reversed(range(len(place))):
            around = part_at(program[1], place[:at])
            start = len(around) - {"pair": 2, "if": 3, "each": 2, "let": 2, "times": 3}[around[0]]
            whole = around[:start + place[at]] + (whole,) + around[start + place[at] + 1:]
        return whole

    def test_each_misfit(self):
        for rule, tree in MISFITS:
            for around, place in AROUND:
                program = program_of(around.replace("T", tree))
                kinds_of(program)
                self.assertNotIn((rule, place), unchanged(fitting, program), (rule, tree))
                misfit(program, rule, place)
                for old in places(program[1]):
                    refusal(NoRule, now_at, program, rule, place, old)

    def test_misfits_but_for_one_thing(self):
        # What the misfits lack, given to them, makes them fit: so each fails by one condition alone.
        for rule, tree in [
            ("drop", "let x one a a"), ("drop", "let x not yes not t"), ("alias", "let x a add x x"), ("known", "if yes a b"), ("alike", "if less 0 a a a"),
            ("first", "first pair a one a"), ("second", "second pair one a a"), ("only", "pick one a 0"), ("count", "long each x r one x"),
            ("never", "times x 0 a b"), ("picked", "pick each x r one x b"), ("picked", "pick each x each y r t one x b"),
            ("joined", "each x each y r one y let z x z"), ("joined", "each x each y r one y one x"), ("joined", "each x each y r add y 1 one x"),
            ("joined", "each x each y r one y sum x"), ("joined", "each x each y r one y times z 2 long x z"),
        ]:
            self.assertIn((rule, ()), fitting(program_of(tree)), (rule, tree))

    def test_picked_by_the_kind_of_its_row(self):
        for kind, fits in [(NUM, True), (TRUTH, True), (row(NUM), False), (row(TRUTH), False), (("pair", NUM, NUM), False)]:
            program = ((("r", row(kind)),), ("pick", ("each", "x", ("name", "r"), ("one", ("name", "x"))), num(0)))
            self.assertEqual(("picked", ()) in fitting(program), fits, kind)

    def test_picked_by_a_name_that_is_free_in_both(self):
        # Of programs that have kinds there is none: there nothing around binds a name that is bound within.
        misfit(program_of("pick each x r one x x"), "picked", ())
        misfit(program_of("pick each x r one x long one x"), "picked", ())
        self.assertIn(("picked", ()), fitting(program_of("pick each x r one x let x 0 x")))

    def test_rules_and_places_that_are_none(self):
        program = program_of("add mul a b 0")
        self.assertEqual(put_otherwise(program, "nought", ()), program_of("mul a b"))
        for thing in odd_things() + ["Nought", "nought ", "not", "add", ("nought",), ["nought"], "noughts"]:
            misfit(program, thing, ())
            refusal(NoRule, now_at, program, thing, (), ())
        for thing in [one for one in odd_things() if one != ()] + [[], [0], (0, 0, 0), (2,), (-1,), (True,), (False,), (0, True), "", "()", (10 ** 30,), (0, None), ((),)]:
            misfit(program, "nought", thing)
            refusal(NoRule, now_at, program, "nought", thing, ())
        other = program_of("pair add a 0 add b 0")
        self.assertEqual(put_otherwise(other, "nought", (1,)), program_of("pair add a 0 b"))
        self.assertEqual(put_otherwise(other, "nought", (0,)), program_of("pair a add b 0"))
        for thing in [(True,), (False,), [1], [0], (1, 0), ()]:
            misfit(other, "nought", thing)


class NoProgram(unittest.TestCase):
    def test_too_many_pieces(self):
        # Sharing a number takes two pieces more: at 199 pieces there is room for one alone.
        for leaves, fits in ((99, True), (100, False)):
            program = ((), full_tree(leaves))
            self.assertEqual(len(places(program[1])), 2 * leaves - 1)
            deepest = max(places(program[1]), key=len)[:-1]
            self.assertEqual(part_at(program[1], deepest), ("add", num(1), num(1)))
            self.assertEqual(("share", deepest) in fitting(program), fits)
            # Of greater parts one is taken away.
            self.assertIn(("share", deepest[:-1]), fitting(program))
        misfit(program, "share", deepest)

    def test_too_deep(self):
        for depth, fits in ((17, True), (18, True), (19, False)):
            tree = ("add", num(7), num(7))
            for _ in range(depth - 1):
                tree = ("add", ("name", "n"), tree)
            program = ((("n", NUM),), tree)
            self.assertTrue(is_program(program))
            place = (1,) * (depth - 1)
            self.assertEqual(("share", place) in fitting(program), fits, depth)
            if not fits:
                misfit(program, "share", place)

    def test_picked_and_joined_too_deep(self):
        for before, rule in (("pick each x r x T", "picked"), ("each x each y r one y T", "joined")):
            for depth, fits in ((17, True), (18, True), (19, False)):
                inner = "n"
                for _ in range(depth - 1):
                    inner = "sub n " + inner
                program = read_program("n num r row num : " + before.replace("T", inner))
                self.assertTrue(is_program(program))
                self.assertEqual((rule, ()) in fitting(program), fits, (rule, depth))

    def test_a_name_bound_within_itself(self):
        # y would be bound in C, which would stand within its each.
        program = program_of("each x each y r one y each y x y")
        misfit(program, "joined", ())
        self.assertEqual(put_otherwise(program, "self", (1,)), program_of("each x each y r one y x"))


class NewNames(unittest.TestCase):
    def shared_by(self, text):
        return put_otherwise(read_program(text), "share", ())[1][1]

    def test_the_first_that_stands_nowhere(self):
        self.assertEqual(self.shared_by(": add 1 1"), "a")
        self.assertEqual(self.shared_by("a num : add mul a a mul a a"), "b")
        self.assertEqual(self.shared_by("b num : add mul b b mul b b"), "a")
        # A head that is not used, bound names, and a name bound beside.
        self.assertEqual(self.shared_by("a num b num : add 1 1"), "c")
        self.assertEqual(self.shared_by(": add let a 1 a let a 1 a"), "b")
        self.assertEqual(self.shared_by("c num : pair each a upto 1 let b a 2 each a upto 1 let b a 2"), "d")
        self.assertEqual(self.shared_by(": pair times a 2 1 1 times a 2 1 1"), "b")
        self.assertEqual(put_otherwise(read_program(": pair add 1 1 let a 2 3"), "share", (0,))[1][1][1], "b")

    def test_behind_z(self):
        letters = "abcdefghijklmnopqrstuvwxyz"
        heads = tuple([(one, NUM) for one in letters[:6]])

        def nested(names, inner):
            for one in reversed(names):
                inner = ("let", one, num(0), inner)
            return inner

        # Twenty trees may stand within one another: the names are spread over two parts.
        first = nested(letters[6:16], ("yes",))
        second = nested(letters[16:], ("no",))
        program = (heads, ("pair", ("both", first, second), ("add", num(1), num(1))))
        self.assertTrue(is_program(program))
        self.assertEqual(put_otherwise(program, "share", (1,))[1][2][1], "aa")
        program = (heads, ("pair", ("both", nested(["aa", "ab", "ad"], first), second), ("add", num(1), num(1))))
        self.assertEqual(put_otherwise(program, "share", (1,))[1][2][1], "ac")


class Fitting(unittest.TestCase):
    def test_in_the_order_of_places_and_names(self):
        self.assertEqual(unchanged(fitting, program_of("a")), [])
        self.assertEqual(unchanged(fitting, program_of("add 0 0")), [("nought", ()), ("reckon", ()), ("share", ())])
        self.assertEqual(unchanged(fitting, program_of("let x t if not not yes add add a 0 mul 1 1 b")),
                         [("notnot", (1, 0)), ("nought", (1, 1, 0)), ("nought", (1, 1, 1)), ("reckon", (1, 1, 1)), ("share", (1, 1, 1)), ("turn", (1,)),
                          ("alias", ()), ("drop", ())])

    def test_just_those_that_are_not_refused(self):
        seen = set()
        for seed in range(120):
            program, _ = Ruler(seed).program(4)
            told = unchanged(fitting, program)
            due = []
            for place in places(program[1]):
                for rule in NAMES:
                    try:
                        put_otherwise(program, rule, place)
                    except NoRule:
                        continue
                    due.append((rule, place))
            self.assertEqual(told, due)
            seen.update(rule for rule, _ in told)
        self.assertEqual(seen, set(NAMES))

    def test_told_is_the_askers_own(self):
        told_own(fitting, program_of("let x t if not not yes add add a 0 mul 1 1 b"))


class Moves(unittest.TestCase):
    def test_each_row(self):
        for rule, before, _, moves in ROWS:
            for around, place in AROUND:
                program = program_of(around.replace("T", before))
                for old in places(program[1]):
                    if old[:len(place)] == place:
                        inner = moves.get(old[len(place):])
                        due = None if inner is None else place + inner
                    else:
                        due = old
                    self.assertEqual(unchanged(now_at, program, rule, place, old), due, (rule, before, around, old))

    def test_moved_pieces_keep_their_signs(self):
        for rule, before, _, moves in ROWS:
            program = program_of(before)
            told = put_otherwise(program, rule, ())
            for old, new in moves.items():
                one, other = part_at(program[1], old), part_at(told[1], new)
                self.assertEqual(one[0], other[0], (rule, before, old))


class Same(unittest.TestCase):
    def same(self, program, worths, rule, place):
        """Sees that a program put otherwise is the same; tells the place at which both stop, or None."""
        told = put_otherwise(program, rule, place)
        where = (rule, place, program_text(program), program_text(told), worths)
        self.assertEqual(kinds_of(program)[-1], kinds_of(told)[-1], where)
        elder, newer = read(program, worths), read(told, worths)
        if elder[0] == "stops":
            due = (*elder[:2], now_at(program, rule, place, elder[2]), elder[3])
            self.assertEqual(newer, due, where)
            return elder[2]
        self.assertEqual(repr(newer), repr(elder), where)
        old, new = ledger(program, worths), ledger(told, worths)
        self.assertLessEqual(len(new), len(old), where)
        self.assertLessEqual(sum(step[3] for step in new), sum(step[3] for step in old), where)
        return None

    def test_each_row_with_worths_of_all_sorts(self):
        numbers, truths, rows = (0, 1, -1, 2, GREAT, -GREAT), (True, False), ([], [1, 0], [2, 1, 3], [GREAT, GREAT], [GREAT])
        for rule, before, _, moves in ROWS:
            program = program_of(before)
            stops = set()
            for worths in itertools.product(numbers, numbers, truths, truths[:1], rows, rows[:1]):
                stops.add(self.same(program, list(worths), rule, ()))
            due = {old for old in moves if part_at(program[1], old)[0] in STOPPING}
            self.assertLessEqual(due, stops, (rule, before))
            self.assertIn(None, stops, (rule, before))

    def test_within_others(self):
        for rule, before, _, _ in ROWS:
            for around, place in AROUND:
                program = program_of(around.replace("T", before))
                for worths in ([1, 2, True, True, [1, 2, 3], []], [GREAT, 1, False, True, [0, 3], [1]], [0, 0, False, False, [], []]):
                    self.same(program, worths, rule, place)

    def test_programs_of_every_rule(self):
        seen = {}
        for seed in range(700):
            program, worths = Ruler(seed).program(4)
            for rule, place in fitting(program):
                stop = self.same(program, worths, rule, place)
                seen.setdefault(rule, set()).add("is" if stop is None else "stops")
        self.assertEqual(set(seen), set(NAMES))
        self.assertTrue(all(len(some) == 2 for some in seen.values()), seen)


if __name__ == "__main__":
    unittest.main()
