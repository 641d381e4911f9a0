"""The deeds of the desk (points 2, 7, 18, 20 to 23 and 31, and the interface of desk.py)."""

import unittest

from desks import DeskCase, state_of
from roundminutes import desk as module
from roundminutes.bars import FixedBar, RingBar
from roundminutes.desk import Desk
from roundminutes.errors import (
    BadName, BadNumber, Barred, BrokenSpan, HeldEvent, NothingLeft, Stuck, UnknownEvent, UnknownSpan, WrongNames)
from roundminutes.manners import Alone, Daily
from roundminutes.nets import Net
from roundminutes.rooms import Island
from roundminutes.shifts import Shift
from roundminutes.times import Times
from samples import CHAIN, CHAIN_GOAL, CHAIN_START, MIXED, MIXED_TIMES, NET, X, Y, Z


def moved(times, **entries):
    return times + Shift(entries)


class BeginningTest(DeskCase):

    def test_first_state(self):
        desk = Desk(NET, X)
        self.assertEqual(state_of(desk), (NET, X, [], None, "daily"))
        self.assertIs(desk.aim, None)
        self.assertEqual(desk.log, [])

    def test_without_events(self):
        desk = Desk(Net(30, [], []), Times(30, {}))
        self.assertEqual((list(desk), desk.held, desk.log), ([], [], []))
        self.assert_no_deed(desk, desk.later)
        self.assertIs(desk.moves_left(), None)
        # The empty timetable is an aim, too.
        self.assert_changes(desk, "aim 30", desk.aim_at, Times(30, {}), aim=Times(30, {}))
        self.assertIs(type(desk.aim), Times)
        self.assertEqual(desk.moves_left(), 0)

    def test_faults(self):
        self.assert_error(BadNumber, [29], Desk, NET, Times(29, {"x": 0}))
        self.assert_error(WrongNames, ["b"], Desk, NET, Times(30, {"x": 0, "a": 1}))
        self.assert_error(WrongNames, ["x"], Desk, NET, Times(30, {**X.minutes, "x": 0}))
        self.assert_error(BrokenSpan, [1], Desk, NET, Times(30, {"a": 0, "b": 10, "c": 12}))

    def test_items_and_iteration(self):
        desk = Desk(MIXED, MIXED_TIMES)
        self.assertEqual(list(desk), ["e", "b", "d", "a", "c", "f"])
        self.assertEqual([first + second for first in desk for second in desk][:3], ["ee", "eb", "ed"])
        self.assertEqual([desk[name] for name in desk], [12, 0, 0, 5, 9, 7])
        for name in ["x", "", "B"]:
            self.assert_left(desk, UnknownEvent, [name], lambda name: desk[name], name)

    def test_later_changes_of_what_is_returned(self):
        desk = Desk(NET, X)
        desk.hold("a")
        desk.held.append("b")
        desk.log.clear()
        desk.times.minutes.clear()
        desk.net.spans.clear()
        list(desk).clear()
        self.assertEqual((desk.held, desk.log, desk.times, len(desk.net.spans)), (["a"], ["hold a"], X, 3))

    def test_everything_is_defined_in_the_class(self):
        self.assertEqual(Desk.__module__, "roundminutes.desk")
        self.assertIs(vars(module)["Desk"], Desk)
        for name in """__init__ net times held aim log manner __getitem__ __setitem__ __iter__ later earlier push place
                hold free change choose aim_at step moves_left undo redo trial""".split():
            self.assertIn(name, vars(Desk))


class LaterTest(DeskCase):

    def test_later_and_earlier(self):
        desk = Desk(NET, X)
        self.assertIs(self.assert_changes(desk, "later b", desk.later, "b", times=moved(X, b=1)), None)
        self.assertIs(self.assert_changes(desk, "earlier a", desk.earlier, "a", times=moved(X, a=-1, b=1)), None)
        self.assertEqual(desk["a"], 29)
        self.assert_changes(desk, "earlier b", desk.earlier, "b", times=moved(X, a=-1))

    def test_all_at_once(self):
        # One alone could not be moved.
        desk = Desk(CHAIN, CHAIN_START)
        self.assert_left(desk, BrokenSpan, [0], desk.later, "b")
        self.assert_changes(desk, "later a b", desk.later, "b", "a", times=moved(CHAIN_START, a=1, b=1))
        self.assert_changes(desk, "earlier d e", desk.earlier, "e", "d", times=moved(CHAIN_START, a=1, b=1, d=-1, e=-1))

    def test_names_each_once_and_in_the_order_of_the_net(self):
        desk = Desk(MIXED, MIXED_TIMES)
        times = moved(MIXED_TIMES, e=1, d=1, f=1)
        self.assert_changes(desk, "later e d f", desk.later, "f", "d", "f", "e", "d", times=times)
        self.assert_changes(desk, "earlier e d", desk.earlier, "d", "d", "e", times=moved(MIXED_TIMES, f=1))

    def test_without_names(self):
        desk = Desk(NET, X)
        desk.later("b")
        desk.undo()
        self.assertIs(self.assert_no_deed(desk, desk.later), None)
        self.assertIs(self.assert_no_deed(desk, desk.earlier), None)

    def test_whole_round(self):
        desk = Desk(Net(3, ["a"], []), Times(3, {"a": 0}))
        for minute in [1, 2, 0]:
            desk.later("a")
            self.assertEqual(desk["a"], minute)
        self.assertEqual(desk.log, ["later a"] * 3)

    def test_errors_in_order(self):
        desk = Desk(NET, Times(30, {"a": 0, "b": 5, "c": 10}))
        desk.hold("b")
        desk.hold("a")
        for call in [desk.later, desk.earlier]:
            self.assert_left(desk, UnknownEvent, ["x"], call, "b", "x", "y", "a")
            self.assert_left(desk, UnknownEvent, [""], call, "", "x")
            self.assert_left(desk, HeldEvent, ["b"], call, "c", "b", "a")
            self.assert_left(desk, HeldEvent, ["a"], call, "a", "b", "a")
        desk.free("a")
        self.assert_left(desk, HeldEvent, ["b"], desk.later, "a", "b")
        self.assert_left(desk, BrokenSpan, [0], desk.later, "a")
        self.assert_left(desk, BrokenSpan, [1], desk.earlier, "c")
        desk.free("b")
        self.assert_left(desk, BrokenSpan, [0], desk.later, "a", "c")
        self.assert_left(desk, BrokenSpan, [0], desk.earlier, "b", "c")


class PushTest(DeskCase):

    def test_push(self):
        desk = Desk(NET, X)
        shift = self.assert_changes(desk, "push b +12", desk.push, "b", 12, times=moved(X, a=2, b=12, c=7))
        self.assertIs(type(shift), Shift)
        self.assertEqual(shift.moves, {"a": 2, "b": 12, "c": 7})
        shift = self.assert_changes(desk, "push c -3", desk.push, "c", -3, times=moved(X, a=2, b=9, c=4))
        self.assertEqual(shift.moves, {"b": -3, "c": -3})

    def test_held_events(self):
        desk = Desk(NET, X)
        desk.hold("c")
        self.assertEqual(desk.push("b", 5), Island(NET, X).push("b", 5, "c"))
        desk.undo()
        with self.assertRaises(Stuck) as caught:
            desk.push("b", 6)
        self.assertEqual(caught.exception.name, "c")
        self.assertEqual(Island(NET, X).slack(caught.exception.way), 5)
        self.assertEqual((desk.times, desk.log), (X, ["hold c"]))
        desk.free("c")
        self.assertEqual(desk.push("b", 6).moves, {"b": 6, "c": 1})
        self.assert_left(desk, BadNumber, [2001], desk.push, "b", 2001)

    def test_held_event_itself(self):
        desk = Desk(NET, X)
        desk.hold("b")
        for minutes in [1, -1]:
            self.assert_left(desk, Stuck, ["b", []], desk.push, "b", minutes)
        self.assertEqual(self.assert_no_deed(desk, desk.push, "b", 0), Shift({}))

    def test_state_that_stays_equal(self):
        desk = Desk(Net(30, ["a", "b"], []), Times(30, {"a": 3, "b": 4}))
        self.assertEqual(self.assert_no_deed(desk, desk.push, "a", 0), Shift({}))
        for minutes in [30, -30, 1980]:
            self.assertEqual(self.assert_no_deed(desk, desk.push, "a", minutes), Shift({"a": minutes}))
        self.assertEqual(desk.push("a", 31), Shift({"a": 31}))
        self.assertEqual((desk["a"], desk.log), (4, ["push a +31"]))

    def test_errors_in_order(self):
        desk = Desk(NET, X)
        for name in "abc":
            desk.hold(name)
        self.assert_left(desk, UnknownEvent, ["x"], desk.push, "x", 2001)
        for minutes in [2001, -2001, 10 ** 9]:
            self.assert_left(desk, BadNumber, [minutes], desk.push, "b", minutes)
        # The room from a to b is 10, the one from b to a is 5.
        self.assert_left(desk, Stuck, ["a", Island(NET, X).chain("a", "b")], desk.push, "b", 2000)
        self.assert_left(desk, Stuck, ["a", Island(NET, X).chain("b", "a")], desk.push, "b", -2000)
        desk.free("b")
        self.assert_left(desk, Stuck, ["c", Island(NET, X).chain("c", "b")], desk.push, "b", 6)


class PlaceTest(DeskCase):

    def test_place(self):
        desk = Desk(NET, X)
        shift = self.assert_changes(desk, "place b 22", desk.place, "b", 22, times=moved(X, a=2, b=12, c=7))
        self.assertEqual(shift.moves, {"a": 2, "b": 12, "c": 7})
        self.assertEqual(self.assert_changes(desk, "place b 21", desk.place, "b", 21, times=moved(X, a=2, b=11, c=7)),
                         Shift({"b": -1}))
        self.assertEqual(desk.log, ["place b 22", "place b 21"])

    def test_item(self):
        desk = Desk(NET, X)
        desk["b"] = 12
        self.assertEqual((desk["b"], desk.log), (12, ["place b 12"]))
        desk.hold("a")
        for error, values, name, minute in [(UnknownEvent, ["x"], "x", 99), (BadNumber, [30], "a", 30),
                                            (Stuck, ["a", []], "a", 5)]:
            self.assert_left(desk, error, values, desk.__setitem__, name, minute)
        desk["c"] = 20
        self.assertEqual(desk.log, ["place b 12", "hold a"])

    def test_shorter_way_and_later_one_for_half_a_round(self):
        for length in [3, 4, 29, 30]:
            net = Net(length, ["a"], [])
            for start in range(length):
                for minute in range(length):
                    desk = Desk(net, Times(length, {"a": start}))
                    [minutes] = [d for d in range(-length, length + 1)
                                 if (d - minute + start) % length == 0 and -length < 2 * d <= length]
                    self.assertEqual(desk.place("a", minute)["a"], minutes)
                    self.assertEqual(desk["a"], minute)
        desk = Desk(Net(30, ["a"], []), Times(30, {"a": 20}))
        self.assertEqual([desk.place("a", 5), desk.place("a", 20)], [Shift({"a": 15})] * 2)

    def test_same_minute(self):
        desk = Desk(NET, X)
        desk.hold("b")
        self.assertEqual(self.assert_no_deed(desk, desk.place, "b", 10), Shift({}))

    def test_errors_in_order(self):
        desk = Desk(NET, X)
        desk.hold("c")
        self.assert_left(desk, UnknownEvent, ["x"], desk.place, "x", 30)
        for minute in [30, -1, 10 ** 9, -10 ** 9]:
            self.assert_left(desk, BadNumber, [minute], desk.place, "c", minute)
        self.assert_left(desk, Stuck, ["c", []], desk.place, "c", 29)
        self.assert_left(desk, Stuck, ["c", Island(NET, X).chain("c", "b")], desk.place, "b", 16)


class HoldTest(DeskCase):

    def test_hold_and_free(self):
        desk = Desk(MIXED, MIXED_TIMES)
        self.assertIs(self.assert_changes(desk, "hold a", desk.hold, "a", held=["a"]), None)
        self.assert_changes(desk, "hold b", desk.hold, "b", held=["b", "a"])
        self.assert_changes(desk, "hold e", desk.hold, "e", held=["e", "b", "a"])
        self.assertIs(self.assert_changes(desk, "free b", desk.free, "b", held=["e", "a"]), None)
        self.assert_changes(desk, "free a", desk.free, "a", held=["e"])

    def test_state_that_stays_equal(self):
        desk = Desk(NET, X)
        desk.hold("b")
        desk.hold("a")
        desk.undo()
        self.assert_no_deed(desk, desk.hold, "b")
        self.assert_no_deed(desk, desk.free, "a")
        self.assertEqual(desk.log, ["hold b"])

    def test_unknown_event(self):
        desk = Desk(NET, X)
        for call in [desk.hold, desk.free]:
            for name in ["x", "", "A"]:
                self.assert_left(desk, UnknownEvent, [name], call, name)


class ChangeTest(DeskCase):

    def test_change(self):
        desk = Desk(NET, X)
        net = NET.changed(1, least=7, most=12)
        self.assertIs(self.assert_changes(desk, "change 1 7 12", desk.change, 1, 7, 12, net=net), None)
        self.assertEqual(desk.net.span(1), ("b", "c", 7, 12, 3))
        self.assertEqual((NET.span(1), desk.times), (("b", "c", 5, 25, 3), X))
        # It holds for later deeds.
        desk.push("c", 2)
        self.assert_left(desk, BrokenSpan, [1], desk.later, "c")

    def test_at_its_bounds(self):
        desk = Desk(NET, X)
        for least, most in [(10, 10), (0, 10), (10, 37), (10, 29), (5, 25)]:
            self.assert_changes(desk, f"change 0 {least} {most}", desk.change, 0, least, most,
                                net=NET.changed(0, least=least, most=most))
        for least, most in [(11, 20), (0, 9), (29, 39), (11, 38)]:
            self.assert_left(desk, BrokenSpan, [0], desk.change, 0, least, most)
        # 40 minutes pass then.
        self.assert_changes(desk, "change 2 29 40", desk.change, 2, 29, 40, net=desk.net.changed(2, least=29, most=40))

    def test_state_that_stays_equal(self):
        desk = Desk(NET, X)
        desk.change(1, 6, 24)
        desk.undo()
        self.assert_no_deed(desk, desk.change, 1, 5, 25)

    def test_errors_in_order(self):
        desk = Desk(NET, X)
        for number in [3, -1, 10 ** 9]:
            self.assert_left(desk, UnknownSpan, [number], desk.change, number, 30, 99)
        self.assert_left(desk, BadNumber, [30], desk.change, 2, 30, 5)
        self.assert_left(desk, BadNumber, [-1], desk.change, 2, -1, 5)
        self.assert_left(desk, BadNumber, [4], desk.change, 2, 5, 4)
        self.assert_left(desk, BadNumber, [33], desk.change, 2, 5, 33)
        self.assert_left(desk, BrokenSpan, [2], desk.change, 2, 5, 9)


class ChooseTest(DeskCase):

    def test_choose_and_assigning(self):
        desk = Desk(NET, X)
        self.assertIs(self.assert_changes(desk, "choose alone", desk.choose, "alone", manner="alone"), None)
        self.assert_no_deed(desk, desk.choose, "alone")
        desk.manner = "daily"
        self.assertEqual((desk.manner, desk.log), ("daily", ["choose alone", "choose daily"]))
        self.assert_no_deed(desk, setattr, desk, "manner", "daily")
        desk.manner = "alone"
        self.assertEqual((desk.manner, desk.log[2:]), ("alone", ["choose alone"]))

    def test_other_words(self):
        desk = Desk(NET, X)
        for word in ["", "manner", "Daily", "alone ", "a"]:
            self.assert_left(desk, BadName, [word], desk.choose, word)
            self.assert_left(desk, BadName, [word], setattr, desk, "manner", word)


class AimTest(DeskCase):

    def test_aim_at(self):
        desk = Desk(NET, X)
        self.assertIs(self.assert_changes(desk, "aim 30 a=0 b=6 c=20", desk.aim_at, Y, aim=Y), None)
        self.assert_changes(desk, "aim 30 a=0 b=10 c=20", desk.aim_at, X, aim=X)

    def test_order_of_the_net(self):
        desk = Desk(MIXED, MIXED_TIMES)
        self.assertEqual(list(MIXED_TIMES), list("abcdef"))
        desk.aim_at(MIXED_TIMES)
        self.assertEqual(list(desk.aim), ["e", "b", "d", "a", "c", "f"])
        self.assertEqual(desk.log, ["aim 20 e=12 b=0 d=0 a=5 c=9 f=7"])
        self.assert_no_deed(desk, desk.aim_at, Times(20, {name: MIXED_TIMES[name] for name in "fedcba"}))

    def test_manner_and_held_events_count(self):
        desk = Desk(CHAIN, CHAIN_START)
        desk.aim_at(CHAIN_GOAL)
        desk.choose("alone")
        with self.assertRaises(Barred) as caught:
            desk.aim_at(CHAIN_GOAL)
        self.assertEqual((caught.exception.reason.KIND, caught.exception.reason.first), ("path", "a"))
        desk.choose("daily")
        desk.hold("b")
        self.assert_no_deed(desk, desk.aim_at, CHAIN_GOAL)
        desk.hold("e")
        with self.assertRaises(Barred) as caught:
            desk.aim_at(CHAIN_GOAL)
        self.assertEqual((caught.exception.reason.first, caught.exception.reason.second), ("b", "e"))

    def test_errors_in_order(self):
        desk = Desk(NET, X)
        desk.hold("b")
        self.assert_left(desk, BadNumber, [29], desk.aim_at, Times(29, {}))
        self.assert_left(desk, WrongNames, ["a"], desk.aim_at, Times(30, {"x": 0}))
        self.assert_left(desk, WrongNames, ["x"], desk.aim_at, Times(30, {**X.minutes, "x": 0}))
        self.assert_left(desk, BrokenSpan, [0], desk.aim_at, Times(30, {"a": 0, "b": 4, "c": 20}))
        for goal, kind in [(Z, RingBar), (Y, FixedBar)]:
            with self.assertRaises(Barred) as caught:
                desk.aim_at(goal)
            self.assertIs(type(caught.exception.reason), kind)
            self.assertIs(caught.exception.reason.shows(NET, X, goal, held=["b"]), True)
        self.assertEqual((desk.aim, desk.log), (None, ["hold b"]))


class StepTest(DeskCase):

    def test_steps_to_the_aim(self):
        desk = Desk(NET, X)
        goal = Times(30, {"a": 1, "b": 8, "c": 20})
        desk.aim_at(goal)
        move = self.assert_changes(desk, "step", desk.step, times=moved(X, a=1, b=-1))
        self.assertIs(type(move), Shift)
        self.assertEqual(move.moves, {"a": 1, "b": -1})
        self.assertEqual(self.assert_changes(desk, "step", desk.step, times=goal), Shift({"b": -1}))
        self.assert_left(desk, NothingLeft, [], desk.step)

    def test_all_moves_are_those_of_the_plan(self):
        for kind, held in [(Daily, []), (Alone, []), (Daily, ["b"]), (Daily, ["c"])]:
            net, start = (CHAIN, CHAIN_START)
            goal = moved(start, c=4) if kind is Alone else CHAIN_GOAL
            goal = moved(start, a=2, b=2, d=-3, e=-3) if held == ["c"] else goal
            desk = Desk(net, start)
            desk.choose(kind.NAME)
            for name in held:
                desk.hold(name)
            desk.aim_at(goal)
            plan = kind(*held).lead(net, start, goal)
            for number, (move, stop) in enumerate(zip(plan.steps(), plan.stops())):
                self.assertEqual(desk.moves_left(), len(plan) - number)
                self.assertEqual(desk.step(), move)
                self.assertEqual(desk.times, stop)
            self.assertEqual((desk.times, desk.moves_left()), (goal, 0))
            self.assertEqual(desk.log[-len(plan):], ["step"] * len(plan))
            self.assert_replayed(net, start, desk)

    def test_nothing_left(self):
        desk = Desk(NET, X)
        self.assert_left(desk, NothingLeft, [], desk.step)
        desk.aim_at(X)
        self.assert_left(desk, NothingLeft, [], desk.step)
        desk.later("b")
        self.assertEqual(desk.step().moves, {"b": -1})

    def test_barred_now(self):
        desk = Desk(NET, X)
        desk.aim_at(Y)
        desk.hold("b")
        with self.assertRaises(Barred) as caught:
            desk.step()
        self.assertEqual((caught.exception.reason.KIND, caught.exception.reason.event), ("fixed", "b"))
        self.assertIs(desk.moves_left(), None)
        self.assertEqual((desk.times, desk.aim, desk.log[-1]), (X, Y, "hold b"))
        desk.free("b")
        self.assertEqual(desk.moves_left(), 4)

    def test_aim_that_does_not_keep_a_changed_span(self):
        desk = Desk(NET, X)
        desk.aim_at(Y)
        desk.change(0, 7, 25)
        desk.hold("b")
        self.assert_left(desk, BrokenSpan, [0], desk.step)
        self.assertIs(desk.moves_left(), None)
        desk.free("b")
        desk.change(0, 6, 25)
        self.assertEqual(desk.moves_left(), 4)
        self.assertEqual(desk.step().moves, {"b": -1})

    def test_moves_left(self):
        desk = Desk(NET, X)
        self.assertIs(desk.moves_left(), None)
        desk.aim_at(X)
        self.assertEqual(desk.moves_left(), 0)
        desk.aim_at(Times(30, {"a": 3, "b": 8, "c": 20}))
        self.assertEqual(self.assert_no_deed(desk, desk.moves_left), 3)
        desk.choose("alone")
        self.assertEqual(desk.moves_left(), 5)

    def test_moves_of_the_desks_manner(self):
        desk = Desk(NET, X)
        desk.aim_at(Times(30, {"a": 1, "b": 8, "c": 20}))
        desk.choose("alone")
        self.assertEqual([desk.step().moves for _ in range(3)], [{"a": 1}, {"b": -1}, {"b": -1}])


if __name__ == "__main__":
    unittest.main()
