"""What the desk records, undoes and does again (points 32 and 34, and the interface of desk.py)."""

import random
import unittest

from desks import DeskCase, everything_of, state_of
from roundminutes.desk import Desk
from roundminutes.errors import BrokenSpan, HeldEvent, MinuteError, NothingLeft, UnknownEvent
from roundminutes.times import Times
from samples import CHAIN, CHAIN_GOAL, CHAIN_START, NET, X, Y, chained_nets, all_times, small_nets


def busy_desk():
    """A desk with a deed of each kind, and the states before and after each of them."""
    desk = Desk(NET, X)
    states = [state_of(desk)]
    deeds = [lambda: desk.later("c", "b"), lambda: desk.earlier("b"), lambda: desk.push("b", 6),
             lambda: desk.place("a", 2), lambda: desk.hold("a"), lambda: desk.aim_at(Times(30, {**X.minutes, "a": 2})),
             lambda: desk.step(), lambda: desk.choose("alone"), lambda: desk.step(), lambda: desk.change(2, 5, 20),
             lambda: desk.free("a"), lambda: desk.__setitem__("a", 3), lambda: setattr(desk, "manner", "daily")]
    for deed in deeds:
        deed()
        states.append(state_of(desk))
    return desk, states


LOG = ["later b c", "earlier b", "push b +6", "place a 2", "hold a", "aim 30 a=2 b=10 c=20", "step", "choose alone",
       "step", "change 2 5 20", "free a", "place a 3", "choose daily"]


class LogTest(DeskCase):

    def test_rows(self):
        desk, states = busy_desk()
        self.assertEqual(desk.log, LOG)
        self.assertTrue(all(before != after for before, after in zip(states, states[1:])))

    def test_replay(self):
        desk = busy_desk()[0]
        for _ in LOG:
            self.assert_replayed(NET, X, desk)
            desk.undo()
        self.assert_replayed(NET, X, desk)

    def test_deeds_that_change_nothing(self):
        desk = Desk(NET, X)
        for call, arguments in [(desk.later, ()), (desk.push, ("b", 0)), (desk.place, ("b", 10)), (desk.free, ("a",)),
                                (desk.change, (0, 5, 25)), (desk.choose, ("daily",))]:
            self.assert_no_deed(desk, call, *arguments)
        self.assertEqual(desk.log, [])

    def test_states_of_before_are_recorded_too(self):
        # Back at the first minutes, but by other deeds.
        desk = Desk(NET, X)
        desk.later("b")
        desk.earlier("b")
        self.assertEqual((desk.times, desk.log), (X, ["later b", "earlier b"]))


class UndoTest(DeskCase):

    def test_all_kinds_of_deeds(self):
        desk, states = busy_desk()
        for count in range(len(LOG) - 1, -1, -1):
            self.assertIs(desk.undo(), None)
            self.assertEqual((state_of(desk), desk.log), (states[count], LOG[:count]))
        self.assert_left(desk, NothingLeft, [], desk.undo)
        for count in range(1, len(LOG) + 1):
            self.assertIs(desk.redo(), None)
            self.assertEqual((state_of(desk), desk.log), (states[count], LOG[:count]))
        self.assert_left(desk, NothingLeft, [], desk.redo)

    def test_nothing_left(self):
        desk = Desk(NET, X)
        self.assert_left(desk, NothingLeft, [], desk.undo)
        self.assert_left(desk, NothingLeft, [], desk.redo)
        desk.hold("a")
        self.assert_left(desk, NothingLeft, [], desk.redo)
        desk.undo()
        self.assert_left(desk, NothingLeft, [], desk.undo)

    def test_new_deed_forgets_undone_ones(self):
        desk, states = busy_desk()
        for _ in range(4):
            desk.undo()
        desk.hold("b")
        self.assertEqual(desk.log, [*LOG[:9], "hold b"])
        self.assert_left(desk, NothingLeft, [], desk.redo)
        desk.undo()
        self.assertEqual((state_of(desk), desk.log), (states[9], LOG[:9]))

    def test_same_deed_again_forgets_undone_ones(self):
        desk = Desk(NET, X)
        desk.later("b")
        desk.later("b")
        desk.undo()
        desk.undo()
        desk.later("b")
        self.assertEqual(desk.log, ["later b"])
        self.assert_left(desk, NothingLeft, [], desk.redo)

    def test_deeds_that_change_nothing_or_fail_forget_none(self):
        desk = Desk(NET, X)
        desk.hold("a")
        desk.later("b")
        desk.undo()
        desk.hold("a")
        desk.push("b", 0)
        desk.choose("daily")
        self.assert_error(HeldEvent, ["a"], desk.later, "a")
        self.assert_error(UnknownEvent, ["x"], desk.hold, "x")
        desk.redo()
        self.assertEqual(desk.log, ["hold a", "later b"])

    def test_deeds_after_redo(self):
        desk = Desk(NET, X)
        for name in "abc":
            desk.hold(name)
        desk.undo()
        desk.undo()
        desk.redo()
        self.assertEqual((desk.held, desk.log), (["a", "b"], ["hold a", "hold b"]))
        desk.free("a")
        self.assertEqual((desk.held, desk.log), (["b"], ["hold a", "hold b", "free a"]))
        self.assert_left(desk, NothingLeft, [], desk.redo)
        for held in [["a", "b"], ["a"], []]:
            desk.undo()
            self.assertEqual(desk.held, held)

    def test_chances(self):
        """Any deeds, against a list of the states."""
        chance = random.Random("deeds")
        for net in [*small_nets(20, "deeds"), *chained_nets(10, "deeds")]:
            every = all_times(net)
            for start in chance.sample(every, min(2, len(every))):
                desk = Desk(net, start)
                line, at = [state_of(desk)], 0
                for _ in range(60):
                    choice = chance.randrange(12)
                    if choice == 0 and at > 0:
                        desk.undo()
                        at -= 1
                    elif choice == 1 and at + 1 < len(line):
                        desk.redo()
                        at += 1
                    else:
                        self.try_deed(desk, every, chance)
                        if state_of(desk) != line[at]:
                            line[at + 1:] = [state_of(desk)]
                            at += 1
                    self.assertEqual((state_of(desk), len(desk.log)), (line[at], at))
                self.assert_replayed(net, start, desk)

    def try_deed(self, desk, every, chance):
        name = chance.choice(list(desk))
        deeds = [lambda: desk.later(name, chance.choice(list(desk))), lambda: desk.earlier(name),
                 lambda: desk.push(name, chance.randrange(-5, 6)),
                 lambda: desk.place(name, chance.randrange(desk.net.round_length)),
                 lambda: desk.hold(name), lambda: desk.free(name), lambda: desk.aim_at(chance.choice(every)),
                 lambda: desk.choose(chance.choice(["daily", "alone"])), desk.step, desk.step]
        if desk.net.spans:
            number = chance.randrange(len(desk.net.spans))
            least, most = desk.net.span(number)[2:4]
            deeds.append(lambda: desk.change(number, max(0, least + chance.choice([-1, 0, 1])), most))
        before = everything_of(desk)
        try:
            chance.choice(deeds)()
        except MinuteError:
            self.assertEqual(everything_of(desk), before)


class TrialTest(DeskCase):

    def fail_in(self, desk, *deeds, error=KeyError):
        """Do these deeds in a block that an error leaves."""
        with self.assertRaises(error):
            with desk.trial():
                for deed in deeds:
                    deed()
                raise error("on purpose")

    def test_error_takes_everything_back(self):
        desk, _ = busy_desk()
        desk.undo()
        desk.undo()
        before = everything_of(desk)
        for error in [KeyError, MinuteError, KeyboardInterrupt, RuntimeError]:
            self.fail_in(desk, lambda: desk.hold("b"), lambda: desk.later("c"), desk.undo, error=error)
            self.assertEqual(everything_of(desk), before)

    def test_undone_deeds_of_before(self):
        desk, states = busy_desk()
        desk.undo()
        before = everything_of(desk)
        self.fail_in(desk, desk.redo)
        self.assertEqual(everything_of(desk), before)
        self.fail_in(desk, desk.undo, desk.undo, lambda: desk.hold("c"))
        self.assertEqual(everything_of(desk), before)
        desk.redo()
        self.assertEqual((state_of(desk), desk.log), (states[-1], LOG))

    def test_error_of_a_deed(self):
        desk = Desk(NET, X)
        with self.assertRaises(BrokenSpan):
            with desk.trial():
                for _ in range(20):
                    desk.later("b")
        self.assertEqual((desk.times, desk.log), (X, []))
        self.assert_left(desk, NothingLeft, [], desk.redo)

    def test_error_that_is_caught_inside(self):
        desk = Desk(NET, X)
        with desk.trial():
            desk.hold("a")
            try:
                desk.later("a")
            except HeldEvent:
                desk.hold("b")
        self.assertEqual(desk.log, ["hold a", "hold b"])

    def test_without_an_error_everything_stays(self):
        desk = Desk(NET, X)
        desk.hold("c")
        with desk.trial():
            desk.undo()
            desk.later("b")
            desk.later("b")
            desk.undo()
        self.assertEqual((desk.held, desk["b"], desk.log), ([], 11, ["later b"]))
        desk.redo()
        self.assertEqual(desk.log, ["later b", "later b"])

    def test_begin_of_the_block_counts(self):
        desk = Desk(NET, X)
        trial = desk.trial()
        desk.hold("a")
        for name in ["b", "c"]:
            with self.assertRaises(KeyError):
                with trial:
                    desk.hold(name)
                    raise KeyError
            self.assertEqual(desk.log, ["hold a"])

    def test_blocks_within_blocks(self):
        desk = Desk(NET, X)
        with desk.trial():
            desk.hold("a")
            self.fail_in(desk, lambda: desk.hold("b"), desk.undo, desk.undo)
            self.assertEqual(desk.log, ["hold a"])
            with desk.trial():
                desk.hold("c")
        self.assertEqual(desk.log, ["hold a", "hold c"])
        with self.assertRaises(KeyError):
            with desk.trial():
                with desk.trial():
                    desk.later("b")
                desk.earlier("b")
                self.fail_in(desk, desk.undo, desk.undo, desk.undo)
                self.assertEqual(len(desk.log), 4)
                raise KeyError
        self.assertEqual((desk.times, desk.log), (X, ["hold a", "hold c"]))

    def test_return_leaves_it_without_an_error(self):
        desk = Desk(CHAIN, CHAIN_START)

        def deeds():
            with desk.trial():
                desk.aim_at(CHAIN_GOAL)
                return desk.step()

        self.assertEqual(deeds().moves, {"c": 1, "d": 1, "e": 1})
        self.assertEqual(len(desk.log), 2)

    def test_other_desks_stay(self):
        first, second = Desk(NET, X), Desk(NET, Y)
        self.fail_in(first, lambda: first.hold("a"), lambda: second.hold("b"))
        self.assertEqual((first.log, second.log), ([], ["hold b"]))


if __name__ == "__main__":
    unittest.main()
