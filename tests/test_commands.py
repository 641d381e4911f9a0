"""Commands and logs (points 2, 27, 32 and 33, and the interface of commands.py)."""

import unittest

from desks import DeskCase, everything_of, state_of
from roundminutes import commands
from roundminutes.commands import replay, run
from roundminutes.desk import Desk
from roundminutes.errors import (
    BadName, BadNumber, BadRow, BadWord, Barred, BrokenSpan, DoubleEvent, HeldEvent, NothingLeft, Stuck, UnknownEvent,
    UnknownSpan, WrongNames)
from roundminutes.shifts import Shift
from roundminutes.times import Times
from samples import CHAIN, CHAIN_GOAL, CHAIN_START, NET, X, Y

EVERYTHING = """later c b
earlier b
push b +6
push b -1
place a 2
hold a
aim 30 a=2 b=10 c=20
step
choose alone
step
change 2 5 20
free a
undo
undo
redo"""


class CommandsCase(DeskCase):

    def assert_run(self, desk, text, count):
        self.assertEqual(run(desk, text), count)

    def assert_bad(self, text, row, why, *, rows_before="", net=NET, times=X):
        """The command is bad; what the rows before did stays, or is taken back if they are run as a whole."""
        desk = Desk(net, times)
        run(desk, rows_before)
        before = everything_of(desk)
        self.assert_bad_row(row, why, run, desk, text, whole=True)
        self.assertEqual(everything_of(desk), before)
        expected = Desk(net, times)
        run(expected, rows_before)
        run(expected, "\n".join(text.split("\n")[:row - 1]))
        self.assert_bad_row(row, why, run, desk, text)
        self.assertEqual(everything_of(desk), everything_of(expected))


class RunTest(CommandsCase):

    def test_example_of_the_interface(self):
        desk = Desk(NET, X)
        self.assertEqual(run(desk, "hold a\npush b -4"), 2)
        self.assertEqual(desk.log, ["hold a", "push b -4"])

    def test_rows_of_each_form(self):
        for row, changes in [("later b", {"times": X + Shift({"b": 1})}),
                             ("later c a b c", {"times": X + Shift({"a": 1, "b": 1, "c": 1})}),
                             ("earlier a b", {"times": X - Shift({"a": 1, "b": 1})}),
                             ("push b +12", {"times": X + Shift({"a": 2, "b": 12, "c": 7})}),
                             ("push b -5", {"times": X - Shift({"b": 5})}), ("push b +0", {}), ("push b -0", {}),
                             ("place b 9", {"times": X - Shift({"b": 1})}), ("place b 10", {}),
                             ("hold b", {"held": ["b"]}), ("free b", {}), ("change 1 7 10", {"net": (1, 7, 10)}),
                             ("choose alone", {"manner": "alone"}), ("choose daily", {}),
                             ("aim 30 c=20 a=0 b=6", {"aim": Y})]:
            desk = Desk(NET, X)
            self.assert_run(desk, row, 1)
            if "net" in changes:
                number, least, most = changes["net"]
                changes = {"net": NET.changed(number, least=least, most=most)}
            expected = [changes.get(name, value)
                        for name, value in zip(["net", "times", "held", "aim", "manner"], state_of(Desk(NET, X)))]
            self.assertEqual(list(state_of(desk)), expected, row)
            self.assertEqual(len(desk.log), len(changes), row)

    def test_everything_in_order(self):
        desk, other = Desk(NET, X), Desk(NET, X)
        self.assert_run(desk, EVERYTHING, 15)
        other.later("b", "c")
        other.earlier("b")
        other.push("b", 6)
        other.push("b", -1)
        other["a"] = 2
        other.hold("a")
        other.aim_at(Times(30, {"a": 2, "b": 10, "c": 20}))
        other.step()
        other.manner = "alone"
        other.step()
        other.change(2, 5, 20)
        other.free("a")
        other.undo()
        other.undo()
        other.redo()
        self.assertEqual(everything_of(desk), everything_of(other))
        self.assertEqual(desk.log, ["later b c", *EVERYTHING.split("\n")[1:-4]])
        whole = Desk(NET, X)
        self.assertEqual(run(whole, EVERYTHING, whole=True), 15)
        self.assertEqual(everything_of(whole), everything_of(desk))

    def test_empty_string_has_no_rows(self):
        for whole in [False, True]:
            desk = Desk(NET, X)
            run(desk, "hold a\nundo")
            before = everything_of(desk)
            self.assertEqual(run(desk, "", whole=whole), 0)
            self.assertEqual(everything_of(desk), before)

    def test_rows_that_change_nothing_count(self):
        desk = Desk(NET, X)
        self.assert_run(desk, "free a\nfree b\npush a +0\nhold a", 4)
        self.assertEqual(desk.log, ["hold a"])

    def test_whole_is_passed_by_name_only(self):
        with self.assertRaises(TypeError):
            run(Desk(NET, X), "hold a", True)

    def test_everything_is_defined_where_it_is_listed(self):
        for name in ["run", "replay"]:
            self.assertEqual(vars(commands)[name].__module__, "roundminutes.commands")


class FormsTest(CommandsCase):

    def test_unknown_rows(self):
        for row in ["", " ", "x", "Later a", "LATER a", "later", "earlier", "push", "place", "hold", "free", "change",
                    "choose", "aim", "steps", "do", "trial", "held a", "log", "moves_left", "+1", "later\ta", "#",
                    "aim_at 30 a=0 b=6 c=20", "Aim 30 a=0 b=6 c=20", "aim\t30"]:
            self.assert_bad(f"hold a\n{row}\nhold b", 2, None)

    def test_wrong_number_of_words(self):
        for row in ["push b", "push b +4 +4", "push +4", "place b", "place b 4 4", "place 4", "hold a b", "free a b",
                    "change 1 5", "change 1 5 25 1", "choose daily alone", "step 1", "step a", "undo 1", "redo all"]:
            self.assert_bad(f"hold a\n{row}", 2, None)

    def test_empty_words(self):
        for row in ["later a ", "later  a", " later a", "later a  b", "earlier ", "push  +4", "push b  +4", "push b ",
                    "push b +4 ", "place b ", "place  4", "hold ", "hold  a", " hold a", "free ", "change 1  25",
                    "change  5 25", "change 1 5 ", "choose ", "choose  daily", "step ", " step", "undo ", "redo ",
                    " aim 30 a=0 b=6 c=20"]:
            self.assert_bad(f"hold c\n{row}", 2, None)

    def test_number_words(self):
        for word in ["+5", "-5", "05", "00", "1234567890", "5.", "5x", "x", "1_0", "\u0665", "\u00b2", "5\t"]:
            for row in [f"place b {word}", f"change {word} 5 25", f"change 0 {word} 25", f"change 0 5 {word}",
                        f"push b +{word}", f"push b -{word}"]:
                self.assert_bad(row, 1, None)
        for word in ["4", "0", "+", "-", "4+", "=4", "\u22124", "++4", "+-4"]:
            self.assert_bad(f"push b {word}", 1, None)

    def test_words_for_names_may_be_any(self):
        for word in ["x", "A", "5", "+5", "a=1", "later", "\t", "a\r", "\u00e4"]:
            why = (UnknownEvent, [word])
            for row in [f"later a {word} zz", f"earlier {word} a", f"push {word} +9999", f"place {word} 99",
                        f"hold {word}", f"free {word}"]:
                self.assert_bad(row, 1, why)
            self.assert_bad(f"choose {word}", 1, (BadName, [word]))

    def test_newline_at_the_end_and_between(self):
        self.assert_bad("hold a\n", 2, None)
        self.assert_bad("\nhold a", 1, None)
        self.assert_bad("hold a\n\nhold b", 2, None)
        self.assert_bad("\n", 1, None)


class DeedsTest(CommandsCase):

    def test_errors_of_deeds(self):
        held = "hold b\nlater c"
        for row, kind, values in [("later a b", HeldEvent, ["b"]), ("earlier b", HeldEvent, ["b"]),
                                  ("push a +2001", BadNumber, [2001]), ("push a -2001", BadNumber, [-2001]),
                                  ("push a +999999999", BadNumber, [999999999]), ("push b +1", Stuck, ["b", []]),
                                  ("place a 30", BadNumber, [30]), ("place b 9", Stuck, ["b", []]),
                                  ("change 3 99 99", UnknownSpan, [3]), ("change 0 30 99", BadNumber, [30]),
                                  ("change 0 5 4", BadNumber, [4]), ("change 0 5 9", BrokenSpan, [0]),
                                  ("choose Daily", BadName, ["Daily"]), ("step", NothingLeft, []),
                                  ("redo", NothingLeft, [])]:
            self.assert_bad(row, 1, (kind, values), rows_before=held)
            self.assert_bad(f"free a\n{row}\nx", 2, (kind, values), rows_before=held)
        self.assert_bad("undo", 1, (NothingLeft, []))
        self.assert_bad("hold a\nundo\nundo", 3, (NothingLeft, []))
        self.assert_bad("\n".join(["later b"] * 20), 6, (BrokenSpan, [1]))

    def test_aims(self):
        held = "hold b"
        for text, kind, values in [("29 a=0", BadNumber, [29]), ("30", WrongNames, ["a"]),
                                   ("30 a=0 b=4 c=20", BrokenSpan, [0]), ("30 a=0 b=10 c=20 x=1", WrongNames, ["x"])]:
            self.assert_bad(f"aim {text}", 1, (kind, values), rows_before=held)
        for text, event in [("aim 30 a=0 b=20 c=10", None), ("aim 30 a=0 b=6 c=20", "b")]:
            desk = Desk(NET, X)
            desk.hold("b")
            with self.assertRaises(BadRow) as caught:
                run(desk, text)
            why = caught.exception.why
            self.assertIs(type(why), Barred)
            self.assertIs(caught.exception.__cause__, why)
            self.assertEqual(why.reason.KIND, "fixed" if event else "ring")

    def test_texts_of_aims(self):
        for text, at, why in [("", 0, None), (" ", 0, None), (" 30", 0, None), ("x", 0, None), ("30 ", 1, None),
                              ("30  a=0", 1, None), ("30 a=0 b=6 c=20 ", 4, None), ("2 x", 0, (BadNumber, [2])),
                              ("30 a=0 A=0", 2, (BadName, ["A"])), ("30 a=0 a=0", 2, (DoubleEvent, ["a"])),
                              ("30 a=30", 1, (BadNumber, [30])), ("30 a", 1, None)]:
            desk = Desk(NET, X)
            with self.subTest(text):
                with self.assertRaises(BadRow) as caught:
                    run(desk, f"hold a\naim {text}\nhold b")
                self.assertEqual((caught.exception.row, desk.log), (2, ["hold a"]))
                word = caught.exception.why
                self.assertIs(type(word), BadWord)
                self.assertIs(caught.exception.__cause__, word)
                self.assertEqual(word.at, at)
                self.assert_why(word, why)

    def test_first_bad_row(self):
        self.assert_bad("hold a\nhold x\nhold", 2, (UnknownEvent, ["x"]))
        self.assert_bad("hold a\nhold\nhold x", 2, None)
        self.assert_bad("hold a\nlater a\nfree a\nlater a", 2, (HeldEvent, ["a"]))


class WholeTest(CommandsCase):

    def test_state_log_and_undone_deeds(self):
        desk = Desk(NET, X)
        run(desk, "hold a\nlater b\nlater b\nundo")
        before = everything_of(desk)
        for text in ["redo\nx", "undo\nundo\nhold c\nhold x", "x", "later b\nstep", "undo\nundo\nundo"]:
            with self.assertRaises(BadRow):
                run(desk, text, whole=True)
            self.assertEqual(everything_of(desk), before)
        desk.redo()
        self.assertEqual(desk.log, ["hold a", "later b", "later b"])

    def test_without_whole_the_rows_before_stay_done(self):
        desk = Desk(NET, X)
        for whole in [{}, {"whole": False}]:
            with self.assertRaises(BadRow):
                run(desk, "later b\nx", **whole)
        self.assertEqual(desk.log, ["later b", "later b"])

    def test_within_a_trial(self):
        desk = Desk(NET, X)
        with self.assertRaises(BadRow):
            with desk.trial():
                run(desk, "hold a\nhold b")
                run(desk, "x")
        self.assertEqual((desk.held, desk.log), ([], []))


class ReplayTest(CommandsCase):

    def test_same_state_and_same_log(self):
        desk = Desk(NET, X)
        run(desk, EVERYTHING)
        again = replay(NET, X, desk.log)
        self.assertIs(type(again), Desk)
        self.assertEqual((state_of(again), again.log), (state_of(desk), desk.log))
        desk = Desk(CHAIN, CHAIN_START)
        desk.aim_at(CHAIN_GOAL)
        while desk.moves_left():
            desk.step()
        self.assertEqual(len(desk.log), 31)
        self.assert_replayed(CHAIN, CHAIN_START, desk)

    def test_no_rows(self):
        self.assertEqual(everything_of(replay(NET, X, [])), everything_of(Desk(NET, X)))

    def test_rows_that_no_log_has(self):
        desk = replay(NET, X, ["hold a", "undo", "hold b", "free c", "later a a"])
        self.assertEqual(desk.log, ["hold b", "later a"])

    def test_each_string_is_one_row(self):
        self.assert_bad_row(1, None, replay, NET, X, [""])
        self.assert_bad_row(2, None, replay, NET, X, ["hold a", "", "hold b"])
        self.assert_bad_row(1, None, replay, NET, X, ["step\nstep"])
        self.assert_bad_row(1, (UnknownEvent, ["a\nhold"]), replay, NET, X, ["hold a\nhold"])
        self.assert_bad_row(1, (UnknownEvent, ["a\n"]), replay, NET, X, ["hold a\n"])

    def test_errors(self):
        self.assert_error(BadNumber, [29], replay, NET, Times(29, {}), ["x"])
        self.assert_error(WrongNames, ["b"], replay, NET, Times(30, {"a": 0}), ["x"])
        self.assert_error(BrokenSpan, [0], replay, NET, Times(30, {"a": 0, "b": 4, "c": 20}), [])
        self.assert_bad_row(2, (HeldEvent, ["a"]), replay, NET, X, ["hold a", "later a", "x"])
        self.assert_bad_row(1, (NothingLeft, []), replay, NET, X, ["step"])

    def test_list_passed_in_stays(self):
        rows = ["hold a", "later b"]
        desk = replay(NET, X, rows)
        self.assertEqual(rows, ["hold a", "later b"])
        rows.append("x")
        self.assertEqual(desk.log, ["hold a", "later b"])


if __name__ == "__main__":
    unittest.main()
