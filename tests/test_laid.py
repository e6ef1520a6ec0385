import unittest

from broadrow.kinding import kinds_of
from broadrow.laid import is_laid, laid, unlaid
from broadrow.plain import read
from broadrow.programs import is_program, program_text, read_program
from broadrow.trees import free_names, part_at, places
from helper import NUM, SIGNS, TRUTH, Maker, no_list_twice, odd_things, pair, row, told_own, unchanged

NUMS = row(NUM)

# Of each sign a program, its pieces names but where the sign has none.
SIMPLE = {
    "num": ": 7", "yes": ": yes", "no": ": no", "name": "a num : a", "none": ": none row num",
    "not": "a truth : not a", "first": "a pair num truth : first a", "second": "a pair num truth : second a", "one": "a num : one a",
    "upto": "a num : upto a", "long": "a row truth : long a", "sum": "a row num : sum a", "sums": "a row num : sums a",
    "most": "a row num : most a", "flat": "a row row truth : flat a",
    "add": "a num b num : add a b", "sub": "a num b num : sub a b", "mul": "a num b num : mul a b", "div": "a num b num : div a b",
    "rest": "a num b num : rest a b", "less": "a num b num : less a b", "same": "a num b num : same a b",
    "both": "a truth b truth : both a b", "pair": "a num b truth : pair a b", "pick": "a row truth b num : pick a b",
    "join": "a row num b row num : join a b", "keep": "a row num b row truth : keep a b", "cut": "a row num b row num : cut a b",
    "let": "a num : let x a x", "if": "a truth b num c num : if a b c", "each": "a row num b num : each x a b",
    "times": "a num b num c num : times x a b c",
}

SEVERAL = [
    ": each x upto 3 if less x 2 add x 1 let y one x sum y",
    "n num r row num : times x n r each y x let z add y n if same z n z 0",
    "r row row num : let s flat r pair each x r join x s times y 2 long s add y sum s",
    "a num b truth c row num d pair num num e row row num f num : pair add a f pair b pair c d",
    ": let x let y 1 add y 2 let y 3 mul x y",
    "t truth : if t if t 1 2 if not t 3 4",
    "n num : times x n 1 times y x 2 times z y 3 add z 1",
    "r row row num : each x r each y x each z upto y add z add y long x",
    ": add let x 1 x let x 2 x",
]


def laid_of(text):
    return unchanged(laid, read_program(text))


class Rows(unittest.TestCase):
    def lays(self, text, *rows):
        self.assertEqual(repr(laid_of(text)), repr(list(rows)), text)

    def test_names_and_leaves(self):
        self.lays("a num : a", ("call", (), "a"))
        self.lays(": 7", ("do", (), ("num", 7), NUM, []))
        self.lays(": none pair num truth", ("do", (), ("none", pair(NUM, TRUTH)), row(pair(NUM, TRUTH)), []))
        self.lays(": yes", ("do", (), "yes", TRUTH, []))
        self.lays(": no", ("do", (), "no", TRUTH, []))

    def test_signs_of_one_part(self):
        for sign, kind in [("not", TRUTH), ("first", NUM), ("second", TRUTH), ("one", NUMS), ("upto", NUMS), ("long", NUM), ("sum", NUM), ("sums", NUMS),
                           ("most", NUM), ("flat", row(TRUTH))]:
            self.lays(SIMPLE[sign], ("call", (0,), "a"), ("do", (), sign, kind, [(0,)]))

    def test_signs_of_two_parts(self):
        for sign, kind in [("add", NUM), ("sub", NUM), ("mul", NUM), ("div", NUM), ("rest", NUM), ("less", TRUTH), ("same", TRUTH), ("both", TRUTH),
                           ("pair", pair(NUM, TRUTH)), ("pick", TRUTH), ("join", NUMS), ("keep", NUMS), ("cut", row(NUMS))]:
            self.lays(SIMPLE[sign], ("call", (0,), "a"), ("call", (1,), "b"), ("do", (), sign, kind, [(0,), (1,)]))

    def test_let(self):
        self.lays("a num : let x a x", ("call", (0,), "a"), ("let", "x", (0,)), ("call", (1,), "x"), ("call", (), (1,)))
        self.lays(": add let x 1 x 2", ("do", (0, 0), ("num", 1), NUM, []), ("let", "x", (0, 0)), ("call", (0, 1), "x"), ("call", (0,), (0, 1)),
                  ("do", (1,), ("num", 2), NUM, []), ("do", (), "add", NUM, [(0,), (1,)]))
        self.lays(": let x let y 1 y one x", ("do", (0, 0), ("num", 1), NUM, []), ("let", "y", (0, 0)), ("call", (0, 1), "y"), ("call", (0,), (0, 1)),
                  ("let", "x", (0,)), ("call", (1, 0), "x"), ("do", (1,), "one", NUMS, [(1, 0)]), ("call", (), (1,)))

    def test_arms(self):
        self.lays("a truth b num c num : if a b c",
                  ("call", (0,), "a"), ("arms", (), NUM, (0,), ["b"], [("call", (1,), "b")], ["c"], [("call", (2,), "c")]))
        self.lays(": if yes 1 2",
                  ("do", (0,), "yes", TRUTH, []),
                  ("arms", (), NUM, (0,), [], [("do", (1,), ("num", 1), NUM, [])], [], [("do", (2,), ("num", 2), NUM, [])]))

    def test_within(self):
        self.lays("r row num n num : each x r add x n",
                  ("call", (0,), "r"),
                  ("within", (), NUMS, "x", (0,), ["n"], [("call", (1, 0), "x"), ("call", (1, 1), "n"), ("do", (1,), "add", NUM, [(1, 0), (1, 1)])]))
        self.lays("r row num : each x r x", ("call", (0,), "r"), ("within", (), NUMS, "x", (0,), [], [("call", (1,), "x")]))

    def test_rounds(self):
        self.lays("n num m num : times x n m add x n",
                  ("call", (0,), "n"), ("call", (1,), "m"),
                  ("rounds", (), NUM, "x", (0,), (1,), ["n"], [("call", (2, 0), "x"), ("call", (2, 1), "n"), ("do", (2,), "add", NUM, [(2, 0), (2, 1)])]))
        self.lays(": times x 2 yes not x",
                  ("do", (0,), ("num", 2), NUM, []), ("do", (1,), "yes", TRUTH, []),
                  ("rounds", (), TRUTH, "x", (0,), (1,), [], [("call", (2, 0), "x"), ("do", (2,), "not", TRUTH, [(2, 0)])]))

    def test_within_one_another(self):
        self.lays("r row row num n num : each x r if less n 1 times y n x let z y join z x x",
                  ("call", (0,), "r"),
                  ("within", (), row(NUMS), "x", (0,), ["n"], [
                      ("call", (1, 0, 0), "n"), ("do", (1, 0, 1), ("num", 1), NUM, []), ("do", (1, 0), "less", TRUTH, [(1, 0, 0), (1, 0, 1)]),
                      ("arms", (1,), NUMS, (1, 0), ["n", "x"], [
                          ("call", (1, 1, 0), "n"), ("call", (1, 1, 1), "x"),
                          ("rounds", (1, 1), NUMS, "y", (1, 1, 0), (1, 1, 1), ["x"], [
                              ("call", (1, 1, 2, 0), "y"), ("let", "z", (1, 1, 2, 0)), ("call", (1, 1, 2, 1, 0), "z"), ("call", (1, 1, 2, 1, 1), "x"),
                              ("do", (1, 1, 2, 1), "join", NUMS, [(1, 1, 2, 1, 0), (1, 1, 2, 1, 1)]), ("call", (1, 1, 2), (1, 1, 2, 1)),
                          ]),
                      ], ["x"], [("call", (1, 2), "x")]),
                  ]))

    def test_beside_one_another(self):
        self.lays("r row num : join each x r x each x r 1",
                  ("call", (0, 0), "r"), ("within", (0,), NUMS, "x", (0, 0), [], [("call", (0, 1), "x")]),
                  ("call", (1, 0), "r"), ("within", (1,), NUMS, "x", (1, 0), [], [("do", (1, 1), ("num", 1), NUM, [])]),
                  ("do", (), "join", NUMS, [(0,), (1,)]))
        self.lays("r row num : each x each x r x x",
                  ("call", (0, 0), "r"), ("within", (0,), NUMS, "x", (0, 0), [], [("call", (0, 1), "x")]),
                  ("within", (), NUMS, "x", (0,), [], [("call", (1,), "x")]))

    def test_brought_names_are_sorted_each_once(self):
        rows = laid_of("d num c num b num a num r row num : each x r add d add c add a add d add c add x b")
        self.assertEqual(rows[-1][5], ["a", "b", "c", "d"])
        rows = laid_of("z num y num : times m z y add z add y add z m")
        self.assertEqual(rows[-1][6], ["y", "z"])
        rows = laid_of("z num y num t truth : if t add z add y z let q z add q y")
        self.assertEqual((rows[-1][4], rows[-1][6]), (["y", "z"], ["y", "z"]))
        # One that is bound within the arm is not brought, but one of the same name around it is.
        rows = laid_of("r row num : each x r if less x 1 let q x q sum each q r q")
        self.assertEqual(rows[-1][6][-1][4::2], (["x"], ["r"]))


def places_in(rows):
    """The places under which something is put by rows, in the order of doing."""
    found = []
    for one in rows:
        for inner in one:
            if isinstance(inner, list) and inner and isinstance(inner[0], tuple) and inner[0][:1] and isinstance(inner[0][0], str):
                found += places_in(inner)
        found += [one[1]] if one[0] != "let" else []
    return found


class Doer:
    """Does wide rows for one thing, each by what the document says of it alone."""

    def __init__(self, rows, names):
        self.under = dict(names)
        for one in rows:
            getattr(self, "do_" + one[0])(*one[1:])

    def do_do(self, place, sign, kind, ins):
        heads = tuple([(head, NUM) for head in "ab"[:len(ins)]])
        tree = sign if isinstance(sign, tuple) else (sign, *[("name", head) for head, _ in heads])
        told = read((heads, tree), [self.under[one] for one in ins])
        if told[0] == "stops":
            raise ArithmeticError(told[1])
        self.under[place] = told[1]

    def do_call(self, place, other):
        self.under[place] = self.under[other]

    def do_let(self, name, place):
        self.under[name] = self.under[place]

    def brought(self, names):
        return {one: self.under[one] for one in names}

    def do_arms(self, place, kind, truth, names, rows, others, other_rows):
        names, rows = (names, rows) if self.under[truth] else (others, other_rows)
        self.under[place] = Doer(rows, self.brought(names)).under[rows[-1][1]]

    def do_within(self, place, kind, name, row, names, rows):
        things = self.under[row]
        self.under[place] = [Doer(rows, {**self.brought(names), name: thing}).under[rows[-1][1]] for thing in things]

    def do_rounds(self, place, kind, name, number, begin, names, rows):
        worth = self.under[begin]
        if not 0 <= self.under[number] <= 60:
            raise ArithmeticError("far")
        for _ in range(self.under[number]):
            worth = Doer(rows, {**self.brought(names), name: worth}).under[rows[-1][1]]
        self.under[place] = worth


class Whole(unittest.TestCase):
    def test_made_programs(self):
        maker = Maker(21)
        seen = {}
        for _ in range(600):
            program, worths = maker.program(6)
            rows = unchanged(laid, program)
            self.assertEqual(repr(laid(program)), repr(rows))
            self.assertEqual(places_in(rows), places(program[1]), program_text(program))
            self.assertEqual(repr(unchanged(unlaid, program[0], rows)), repr(program))
            self.assertIs(unchanged(is_laid, program, rows), True)
            self.look_at(rows, program, seen)
            told = read(program, worths)
            try:
                worth = Doer(rows, dict(zip([head for head, _ in program[0]], worths))).under[()]
            except ArithmeticError as stop:
                self.assertEqual(told[:2], ("stops", str(stop)))
            else:
                self.assertEqual(repr(told), repr(("is", worth)))
        self.assertEqual(set(seen), {"do", "call", "let", "arms", "within", "rounds"})

    def look_at(self, rows, program, seen):
        kinds = dict(kinds_of(program))
        for one in rows:
            seen[one[0]] = True
            if one[0] in ("do", "arms", "within", "rounds"):
                self.assertEqual(one[2 if one[0] != "do" else 3], kinds[one[1]])
            if one[0] == "arms":
                for at, number in ((4, 1), (6, 2)):
                    self.assertEqual(one[at], free_names(part_at(program[1], one[1] + (number,))))
                    self.look_at(one[at + 1], program, seen)
            if one[0] in ("within", "rounds"):
                number = 1 if one[0] == "within" else 2
                names = free_names(part_at(program[1], one[1] + (number,)))
                self.assertEqual(one[-2], [name for name in names if name != one[3]])
                self.look_at(one[-1], program, seen)


def changed_things(thing):
    """Things that are like this one but for one spot."""
    yield None
    yield "?"
    if isinstance(thing, bool) or thing is None:
        return
    if isinstance(thing, int):
        yield from (thing + 1, str(thing), (thing,), [thing])
        if thing in (0, 1):
            yield bool(thing)
    elif isinstance(thing, str):
        yield from (thing + "x", thing[:-1], (thing,), 1, True)
    else:
        sort = list if isinstance(thing, list) else tuple
        yield tuple(thing) if sort is list else list(thing)
        yield sort([*thing, None])
        yield sort([sort(), *thing])
        yield sort([thing])
        yield True
        for at, one in enumerate(thing):
            yield sort([*thing[:at], *thing[at + 1:]])
            yield sort([*thing[:at], one, *thing[at:]])
            if at and repr(thing[at - 1]) != repr(one):
                yield sort([*thing[:at - 1], one, thing[at - 1], *thing[at + 1:]])
            for other in changed_things(one):
                yield sort([*thing[:at], other, *thing[at + 1:]])


class Unlaid(unittest.TestCase):
    def test_each_sign(self):
        self.assertEqual(set(SIMPLE), set(SIGNS))
        for sign, text in SIMPLE.items():
            program = read_program(text)
            self.assertEqual(program[1][0], sign)
            self.assertEqual(repr(unchanged(unlaid, program[0], laid(program))), repr(program))

    def test_none_to_six_heads(self):
        for many in range(7):
            heads = tuple([(head, row(NUM)) for head in "abcdef"[:many]])
            tree = ("none", NUM)
            for head, _ in heads:
                tree = ("join", tree, ("name", head))
            told = unlaid(heads, laid((heads, tree)))
            self.assertEqual(repr(told), repr((heads, tree)))
            self.assertIs(is_program(told), True)

    def test_several_signs(self):
        for text in SEVERAL:
            program = read_program(text)
            self.assertEqual(program_text(unlaid(program[0], laid(program))), text)


class IsLaid(unittest.TestCase):
    def test_the_programs_own(self):
        for text in list(SIMPLE.values()) + SEVERAL:
            program = read_program(text)
            self.assertIs(unchanged(is_laid, program, laid(program)), True)

    def test_another_programs(self):
        texts = list(SIMPLE.values()) + SEVERAL
        for text in texts:
            for other in texts:
                if text != other:
                    self.assertIs(is_laid(read_program(text), laid(read_program(other))), False, (text, other))
        # These differ in no more than one number, name, kind or sign.
        for text, other in [
            (": 0", ": 1"), (": none num", ": none truth"), ("a num b num : add a b", "a num b num : add b a"), ("a num b num : add a b", "a num b num : sub a b"),
            ("a num : one a", "a truth : one a"), (": let x 1 x", ": let y 1 y"), ("r row num : each x r x", "r row num : each y r y"),
            ("r row num : each x r x", "r row num : r"), (": if yes 1 2", ": if yes 2 1"), ("n num : times x n n n", "n num : times x n n x"),
        ]:
            self.assertIs(is_laid(read_program(text), laid(read_program(other))), False)
            self.assertIs(is_laid(read_program(other), laid(read_program(text))), False)

    def test_any_other_thing(self):
        for text in list(SIMPLE.values()) + SEVERAL:
            for thing in odd_things():
                self.assertIs(unchanged(is_laid, read_program(text), thing), False)

    def test_rows_with_one_spot_changed(self):
        for text in list(SIMPLE.values()) + SEVERAL:
            program = read_program(text)
            rows = laid(program)
            for thing in changed_things(rows):
                self.assertIs(is_laid(program, thing), False, (text, thing))

    def test_tuples_for_lists_and_true_for_one(self):
        program = read_program("r row num : each x r add x 1")
        rows = laid(program)
        self.assertIs(is_laid(program, tuple(rows)), False)
        self.assertIs(is_laid(program, [list(one) for one in rows]), False)
        within = rows[1]
        self.assertIs(is_laid(program, [rows[0], within[:5] + ((),) + within[6:]]), False)
        self.assertIs(is_laid(program, [rows[0], within[:6] + (tuple(within[6]),)]), False)
        inner = within[6]
        self.assertEqual(inner[1], ("do", (1, 1), ("num", 1), NUM, []))
        for other in (("do", (1, 1), ("num", True), NUM, []), ("do", (True, 1), ("num", 1), NUM, []), ("do", (1, 1), ("num", 1), NUM, ()),
                      ("do", [1, 1], ("num", 1), NUM, []), ("do", (1, 1), ["num", 1], NUM, []), ("do", (1, 1), "num", NUM, [])):
            self.assertIs(is_laid(program, [rows[0], within[:6] + ([inner[0], other, inner[2]],)]), False, other)


class TheAskersOwn(unittest.TestCase):
    def test_no_list_told_is_handed_in_or_told_twice(self):
        for text in list(SIMPLE.values()) + SEVERAL:
            program = read_program(text)
            told_own(laid, program)
            self.assertTrue(no_list_twice(laid(program), laid(program)))

    def test_a_program_keeps_nothing_of_its_rows(self):
        for text in SEVERAL:
            program = read_program(text)
            told_own(unlaid, program[0], laid(program))


if __name__ == "__main__":
    unittest.main()
