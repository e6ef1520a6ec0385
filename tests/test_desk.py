import unittest

from broadrow.chains import settled
from broadrow.desk import Desk
from broadrow.errors import BroadError, NoKind, NoLine, NoRule, NoText
from broadrow.hands import shown, shows, timetable
from broadrow.kinding import kinds_of
from broadrow.kinds import kind_text
from broadrow.ledgers import ledger
from broadrow.plain import read
from broadrow.programs import program_text, read_program
from broadrow.rules import fitting, now_at, put_otherwise
from broadrow.waits import waits
from broadrow.worths import worth_text
from helper import GREAT, Maker, Ruler, refusal

EACH = "program r row num n num : each x r div n x"


class Desks(unittest.TestCase):
    def setUp(self):
        self.desk = Desk()

    def says(self, row, told):
        """Whether a row is answered so, and again when it is said again where it changes nothing."""
        self.assertEqual(self.desk.say(row), told, row)
        if row.split(" ")[0] not in ("put", "settle"):
            self.assertEqual(self.desk.say(row), told, row)

    def refuses(self, row, kind):
        """The error of the class itself that a row is refused with, once it is seen that this changes nothing."""
        kept = self.desk.program
        error = refusal(BroadError, self.desk.say, row)
        self.assertEqual(error.__class__, kind, row)
        self.assertIs(self.desk.program, kept)
        return error


class Answers(Desks):
    def test_program_show_and_kind(self):
        self.says(EACH, "ok")
        self.says("show", "r row num n num : each x r div n x")
        self.says("kind", "row num")
        self.says("program : pair one yes 7", "ok")
        self.says("show", ": pair one yes 7")
        self.says("kind", "pair row truth num")
        self.says("program a num : a", "ok")
        self.says("kind", "num")

    def test_read_and_run(self):
        self.says(EACH, "ok")
        for word in ("read", "run"):
            self.says(word + " [ 1 2 3 ] 12", "is [ 12 6 4 ]")
            self.says(word + " [ ] 12", "is [ ]")
            self.says(word + " [ -5 ] 12", "is [ -3 ]")
            self.says(word + " [ 1 0 3 ] 12", "stops nought at 1 in 1")
        self.says("program a pair num truth t truth : if t first a sub 0 first a", "ok")
        for word in ("read", "run"):
            self.says(word + " 5 yes no", "is -5")
            self.says(word + " 5 no yes", "is 5")
            self.says(word + " -1000000000000000000 no no", "is 1000000000000000000")
        self.says("program : 7", "ok")
        self.says("read", "is 7")
        self.says("run", "is 7")
        self.says("program r row row truth : pair r no", "ok")
        self.says("read [ [ yes ] [ ] [ no no ] ]", "is [ [ yes ] [ ] [ no no ] ] no")

    def test_places_and_turns(self):
        for text, told in [
            (": div 1 0", "stops nought at - in -"), (": add 1 div 1 0", "stops nought at 1 in -"), (": add 1 add 2 div 1 0", "stops nought at 1.1 in -"),
            (": each x upto 12 if less x 11 0 most none num", "stops empty at 1.2 in 11"),
            (": each x upto 3 each y upto x times z 2 y pick one z z", "stops beyond at 1.1.2 in 2.1.0"), (": upto 201", "stops far at - in -"),
            (": keep upto 2 one yes", "stops unlike at - in -"), (": mul 1000000000000000000 2", "stops great at - in -"),
        ]:
            self.says("program " + text, "ok")
            self.says("read", told)
            self.says("run", told)

    def test_steps(self):
        self.says(EACH, "ok")
        self.says("steps [ 1 2 3 ] 12", "steps 2 width 10")
        self.says("steps [ ] 12", "steps 1 width 1")
        self.says("steps [ 1 0 ] 12", "stops")
        self.says("program a num : a", "ok")
        self.says("steps 5", "steps 0 width 0")
        self.says("program n num : times x n 0 add x 1", "ok")
        self.says("steps 3", "steps 8 width 11")

    def test_hands(self):
        self.says(EACH, "ok")
        self.says("hands 1 [ 1 2 3 ] 12", "beats 10 least 10")
        self.says("hands 2 [ 1 2 3 ] 12", "beats 6 least 5")
        self.says("hands 20 [ 1 2 3 ] 12", "beats 2 least 2")
        self.says("hands 20 [ 1 0 3 ] 12", "stops")
        self.says("program n num : times x n 0 add x 1", "ok")
        self.says("hands 20 5", "beats 7 least 7")
        self.says("hands 1 5", "beats 17 least 17")
        self.says("program a num : a", "ok")
        self.says("hands 7 5", "beats 0 least 0")

    def test_rules_put_and_settle(self):
        self.says("program a num : add add a 0 mul 1 a", "ok")
        self.says("rules", "nought 0, nought 1")
        self.says("put nought 1", "ok")
        self.says("show", "a num : add add a 0 a")
        self.says("rules", "nought 0")
        self.says("put nought 0", "ok")
        self.says("show", "a num : add a a")
        self.says("rules", "-")
        self.says("settle", "0")
        self.says("show", "a num : add a a")
        self.says("program a num : add add a 0 mul 1 a", "ok")
        self.says("settle", "2")
        self.says("show", "a num : add a a")
        self.says("settle", "0")
        self.says("program : let x 0 add 0 0", "ok")
        self.says("rules", "nought 1, reckon 1, share 1, drop -")
        self.says("put drop -", "ok")
        self.says("show", ": add 0 0")
        self.says("settle", "1")
        self.says("show", ": 0")

    def test_long_places(self):
        tree = "add a 0"
        for _ in range(11):
            tree = "sub a " + tree
        self.says("program a num : " + tree, "ok")
        self.says("rules", "nought 1.1.1.1.1.1.1.1.1.1.1")
        self.says("put nought 1.1.1.1.1.1.1.1.1.1.1", "ok")
        self.says("rules", "-")

    def test_desks_beside_one_another(self):
        other = Desk()
        self.says(EACH, "ok")
        refusal(NoLine, other.say, "show")
        self.assertEqual(other.say("program : 1"), "ok")
        self.says("show", "r row num n num : each x r div n x")
        self.assertEqual(other.say("show"), ": 1")
        self.assertEqual(Desk().say("program : 2"), "ok")
        self.assertEqual(other.say("read"), "is 1")


class Refusals(Desks):
    def test_what_is_no_row(self):
        for told in (False, True):
            for row in ["", " ", "  ", "Show", "shows", "sho", " show", "\tshow", "show\n", "say", "-", "7", "ok", " program : 1", "PROGRAM : 1", "programs : 1", "stops", "is 1",
                        "put", "hands", "quit", "kinds", "rule", "step", "reads [ 1 ] 2", "programm", "program\t: 1", "read\t1"]:
                self.refuses(row, NoLine)
            for word in ("show", "kind", "rules", "settle"):
                for behind in (" ", "  ", " 1", " -", " show", " " + word):
                    self.refuses(word + behind, NoLine)
            if not told:
                self.says(EACH, "ok")

    def test_all_but_program_where_none_is_kept(self):
        for row in ["show", "kind", "rules", "settle", "read", "run", "steps", "read 1", "run [ ] 1", "steps x", "hands 3", "hands 3 [ 1 ] 2", "put drop -", "put no 0.0"]:
            self.refuses(row, NoLine)
        self.refuses("program", NoText)
        self.refuses("program : x", NoKind)
        for row in ["show", "read", "hands 3"]:
            self.refuses(row, NoLine)

    def test_hands(self):
        self.says("program : 7", "ok")
        for number in range(1, 21):
            self.says(f"hands {number}", "beats 1 least 1")
        for word in ["", "0", "21", "99", "100", "999", "1000", "00", "01", "007", "+1", "-1", "-", "1.", "1.0", "x", "one", "1x", "1_0", "\t1", "0x1"]:
            self.refuses("hands " + word, NoLine)
            # Ahead of what its worths are refused for.
            self.refuses("hands " + word + " nothing", NoLine)
        self.refuses("hands", NoLine)
        self.refuses("hands  3", NoLine)
        self.assertEqual(self.refuses("hands 3 ", NoText).at, 2)
        self.assertEqual(self.refuses("hands 3 4", NoText).at, 2)

    def test_put(self):
        self.says("program a num : add add a 0 a", "ok")
        for row in ["put", "put nought", "put nought 0 ", "put nought 0 0", "put nought  0", "put  nought 0", "put nought ", "put nought 00", "put nought 01", "put nought 0.",
                    "put nought .0", "put nought 0..0", "put nought .", "put nought 0.00", "put nought 0,0", "put nought 1000", "put nought 0.1000", "put nought +0", "put nought -0",
                    "put nought --", "put nought 0.-", "put nought -.0", "put nought x", "put nought (0,)", "put 0 nought", "put nought 0x", "put nought -1", "put nought 0-"]:
            self.refuses(row, NoLine)
        for row in ["put nought -", "put nought 1", "put nought 0.0", "put nought 7", "put nought 999", "put nought 0.0.0.0", "put drop 0", "put nothing 0", "put  0", "put Nought 0",
                    "put 0 0", "put - -", "put put 0", "put nought 10", "put nought 100.0"]:
            self.refuses(row, NoRule)
        self.says("put nought 0", "ok")
        self.refuses("put nought 0", NoRule)
        self.says("show", "a num : add a a")

    def test_programs(self):
        for kept in (False, True):
            for row, at in [
                ("program", 0), ("program ", 0), ("program  ", 0), ("program :", 1), ("program : ", 1), ("program 7", 0), ("program : add 1", 3), ("program : add 1 2 3", 4),
                ("program : 1 ", 2), ("program  : 1", 0), ("program a : a", 1), ("program a num a num : a", 2), ("program a num", 2), ("program a num : let a 1 a", 4),
                ("program : -1", 1), ("program : 01", 1), ("program : 1000000000000000001", 1), ("program program : 1", 1), ("program : add\t1 2", 1),
            ]:
                self.assertEqual(self.refuses(row, NoText).at, at, row)
            for row, place in [("program : add 1 yes", ()), ("program : x", ()), ("program : pair 1 add x 2", (1, 0)), ("program a num : each x a x", ()),
                               ("program a num : not not a", (0,))]:
                self.assertEqual(self.refuses(row, NoKind).place, place, row)
            if not kept:
                self.says(EACH, "ok")
        self.says("show", "r row num n num : each x r div n x")
        self.says("program program num : program", "ok")
        self.says("show", "program num : program")

    def test_worths(self):
        self.says(EACH, "ok")
        for rest, at in [
            ("", 0), (" [", 1), (" [ ]", 2), (" [ ] ", 2), (" [ ] 1 ", 3), (" [ ] 1 2", 3), (" [ ] 1 2 3", 3), (" 1", 0), (" x", 0), (" [ yes ] 1", 1), (" [ 1 2 ] ]", 4),
            (" [ 01 ] 1", 1), ("  [ ] 1", 0), (" [  ] 1", 1), (" [ ]  1", 2), (" [ 1 x", 2), (" [ ] -0", 2), (" [ ] 1000000000000000001", 2), (" [ ] +1", 2), (" [ ] 1\t", 2),
            (" [" + " 1" * 201 + " ] 1", 201),
        ]:
            for word, ahead in (("read", 1), ("run", 1), ("steps", 1), ("hands 7", 2), ("hands 20", 2)):
                self.assertEqual(self.refuses(word + rest, NoText).at, ahead + at, (word, rest))
        self.says("program a pair num truth : a", "ok")
        for row, at in [("read", 1), ("read 1", 2), ("read 1 2", 2), ("read 1 yes no", 3), ("hands 2 1", 3), ("hands 2 yes", 2)]:
            self.assertEqual(self.refuses(row, NoText).at, at, row)
        self.says("program : 1", "ok")
        for row, at in [("read 1", 1), ("read ", 1), ("run  ", 1), ("steps x y", 1), ("hands 2 1", 2)]:
            self.assertEqual(self.refuses(row, NoText).at, at, row)

    def test_what_is_refused_changes_nothing(self):
        rows = ["program", "program : x", "program : add 1", "put nought 1", "put nought 01", "hands 0 1", "read", "run x", "steps 1 1", "settle 1", "rules ", "show x", "x", ""]
        self.says("program a num : add add a 0 a", "ok")
        before = [self.desk.say(row) for row in ("show", "kind", "read 3", "run 3", "steps 3", "hands 2 3", "rules")]
        for row in rows:
            refusal(BroadError, self.desk.say, row)
            self.assertEqual([self.desk.say(one) for one in ("show", "kind", "read 3", "run 3", "steps 3", "hands 2 3", "rules")], before)
        self.says("settle", "1")


class FromWordsToAnswers(Desks):
    def texts_of(self, worths):
        return " ".join(["", *[worth_text(worth) for worth in worths]]) if worths else ""

    def outcome(self, told):
        points = lambda numbers: ".".join(map(str, numbers)) or "-"
        return "is " + worth_text(told[1]) if told[0] == "is" else f"stops {told[1]} at {points(told[2])} in {points(told[3])}"

    def test_as_the_stages_tell(self):
        for seed in range(150):
            program, worths = Maker(seed).program(4)
            rest = self.texts_of(worths)
            self.says("program " + program_text(program), "ok")
            self.says("show", program_text(program))
            self.says("kind", kind_text(kinds_of(program)[-1][1]))
            self.says("read" + rest, self.outcome(read(program, worths)))
            self.says("run" + rest, self.outcome(read(program, worths)))
            met, steps = ledger(program, worths), waits(program, worths)
            self.says("steps" + rest, "stops" if met is None else f"steps {len(met)} width {sum(step[3] for step in met)}")
            for hands in (1, 3, 20):
                due = "stops" if met is None else f"beats {len(timetable(steps, hands))} least {shows(steps, hands, shown(steps, hands))}"
                self.says(f"hands {hands}" + rest, due)

    def test_put_and_settled(self):
        stops = 0
        for seed in range(150):
            program, worths = Ruler(seed).program(4)
            rest = self.texts_of(worths)
            self.says("program " + program_text(program), "ok")
            told = read(program, worths)
            some = fitting(program)
            points = lambda place: ".".join(map(str, place)) or "-"
            self.says("rules", ", ".join(f"{rule} {points(place)}" for rule, place in some) or "-")
            for rule, place in some[:3]:
                self.says(f"put {rule} {points(place)}", "ok")
                self.says("show", program_text(put_otherwise(program, rule, place)))
                self.says("program " + program_text(program), "ok")
            chain = settled(program)
            self.says("settle", str(len(chain)))
            if told[0] == "stops":
                # The same but for the place.
                place, last = told[2], program
                for rule, where, other in chain:
                    place, last = now_at(last, rule, where, place), other
                told = (*told[:2], place, told[3])
                stops += 1
            self.says("read" + rest, self.outcome(told))
            self.says("run" + rest, self.outcome(told))
            self.says("rules", "-")
            self.says("settle", "0")
        self.assertGreater(stops, 30)

    def test_numbers_at_their_bounds(self):
        self.says(f"program a num : sub a {GREAT}", "ok")
        self.says(f"read {GREAT}", "is 0")
        self.says(f"run {-GREAT}", "stops great at - in -")
        self.says("run 0", f"is {-GREAT}")


if __name__ == "__main__":
    unittest.main()
