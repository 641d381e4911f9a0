"""Leading: its bars and total shifts (points 2, 7, 20, 21, 22 and 24, and the interface of manners.py)."""

import random
import unittest

from checking import ErrorCase
from roundminutes.bars import FixedBar, PathBar, RingBar
from roundminutes.errors import BadNumber, Barred, BrokenSpan, UnknownEvent, WrongNames
from roundminutes.manners import Alone, Daily
from roundminutes.nets import Net
from roundminutes.passing import check_times
from roundminutes.plans import Plan
from roundminutes.rings import Base, ends, turn
from roundminutes.rooms import Island
from roundminutes.shifts import Shift
from roundminutes.times import Times
from samples import CHAIN, CHAIN_GOAL, CHAIN_LATER, CHAIN_START, NET, X, Y, Z, chained_nets, small_nets
from trying import Search

# Two rings in two pieces; the second piece comes first in the list of events.
RINGS = Net(30, ["f", "a", "b", "c", "d", "e"], [
    ("a", "b", 5, 25, 1), ("b", "c", 5, 25, 1), ("c", "a", 5, 25, 1),
    ("d", "e", 5, 25, 1), ("e", "f", 5, 25, 1), ("f", "d", 5, 25, 1)])


def in_rings(first, second):
    """A timetable of RINGS: those of NET in each piece."""
    return Times(30, {**first.minutes, "d": second["a"], "e": second["b"], "f": second["c"]})


# A row of events with wide spans; two rounds can pass from a to d.
ROW = Net(30, ["b", "c", "a", "d"], [("a", "b", 0, 27, 1), ("b", "c", 0, 27, 1), ("c", "d", 0, 27, 1)])
ROW_START = Times.zero(30, "a", "b", "c", "d")


def row_times(*growths):
    """The timetable of ROW in which these minutes pass on the spans."""
    minutes = [sum(growths[:count]) % 30 for count in range(4)]
    return Times(30, dict(zip("abcd", minutes)))


class LeadCase(ErrorCase):

    def barred(self, manner, net, start, goal):
        """The bar that is told; it shows that the goal cannot be reached."""
        with self.assertRaises(Barred) as caught:
            manner.lead(net, start, goal)
        bar = caught.exception.reason
        self.assertIs(bar.shows(net, start, goal, held=manner.held, alone=manner.NAME == "alone"), True)
        return bar

    def assert_fixing_ring(self, net, start, name, ring, held):
        """The ring is empty if the event is held, otherwise it is a slackless ring of it."""
        if held:
            self.assertEqual(ring, [])
        else:
            self.assertEqual(ends(net, ring), (name, name))
            self.assertEqual(Island(net, start).slack(ring), 0)


class FaultsTest(ErrorCase):

    def test_order_of_the_document(self):
        broken = Times(30, {"a": 0, "b": 4, "c": 20})
        unknown = Times(30, {**X.minutes, "x": 1})
        for kind in [Daily, Alone]:
            lead = kind("zz", "yy", "b").lead
            self.assert_error(BadNumber, [29], lead, NET, Times(29, {}), broken)
            self.assert_error(WrongNames, ["a"], lead, NET, Times(30, {}), Times(29, {}))
            self.assert_error(WrongNames, ["x"], lead, NET, unknown, Times(29, {}))
            self.assert_error(BrokenSpan, [0], lead, NET, broken, Times(29, {}))
            self.assert_error(BadNumber, [29], lead, NET, X, Times(29, {"a": 0}))
            self.assert_error(WrongNames, ["c"], lead, NET, X, Times(30, {"b": 0, "a": 0}))
            self.assert_error(BrokenSpan, [0], lead, NET, X, broken)
            self.assert_error(UnknownEvent, ["zz"], lead, NET, X, Z)
            self.assert_error(UnknownEvent, ["yy"], kind("b", "yy", "zz").lead, NET, X, Y)
            self.assert_error(UnknownEvent, ["B"], kind("b", "B").lead, NET, X, X)


class RingBarTest(LeadCase):

    def test_example_of_the_interface(self):
        bar = self.barred(Daily(), NET, X, Z)
        self.assertIs(type(bar), RingBar)
        self.assertEqual(bar.ring, Base(NET).rings[0])

    def test_first_ring_that_differs(self):
        first, second = Base(RINGS).rings
        for manner in [Daily(), Alone(), Daily("a"), Alone("b", "f")]:
            for start, goal, ring in [(in_rings(X, X), in_rings(Z, X), first), (in_rings(X, X), in_rings(X, Z), second),
                                      (in_rings(X, Z), in_rings(Z, X), first), (in_rings(Z, X), in_rings(Z, Z), second)]:
                bar = self.barred(manner, RINGS, start, goal)
                self.assertIs(type(bar), RingBar)
                self.assertEqual(bar.ring, ring)

    def test_before_the_other_bars(self):
        for manner in [Daily("b"), Alone("a", "b", "c")]:
            self.assertEqual(self.barred(manner, NET, X, Z).KIND, "ring")


class FixedBarTest(LeadCase):

    def test_first_held_event_in_the_order_of_the_net(self):
        goal = Times(30, {"a": 0, "b": 9, "c": 21})
        for kind in [Daily, Alone]:
            for held, event in [(("c", "b", "a"), "b"), (("c", "a"), "c"), (("b",), "b"), (("c", "c", "b", "b"), "b")]:
                bar = self.barred(kind(*held), NET, X, goal)
                self.assertIs(type(bar), FixedBar)
                self.assertEqual((bar.event, bar.ring), (event, []))

    def test_groups_for_alone_moves(self):
        bar = self.barred(Alone(), CHAIN, CHAIN_START, CHAIN_LATER)
        self.assertIs(type(bar), FixedBar)
        self.assertEqual(bar.event, "a")
        self.assert_fixing_ring(CHAIN, CHAIN_START, "a", bar.ring, False)
        goal = CHAIN_START + Shift({"c": 3, "d": 1, "e": 1})
        bar = self.barred(Alone(), CHAIN, CHAIN_START, goal)
        self.assertEqual(bar.event, "d")
        self.assert_fixing_ring(CHAIN, CHAIN_START, "d", bar.ring, False)

    def test_held_events_of_groups_have_empty_rings(self):
        bar = self.barred(Alone("a"), CHAIN, CHAIN_START, CHAIN_LATER)
        self.assertEqual((bar.event, bar.ring), ("a", []))
        bar = self.barred(Alone("b"), CHAIN, CHAIN_START, CHAIN_LATER)
        self.assertEqual(bar.event, "a")
        self.assert_fixing_ring(CHAIN, CHAIN_START, "a", bar.ring, False)

    def test_slackless_in_the_starting_timetable(self):
        # With the rounds of X all spans are at their least.
        net = Net(30, ["a", "b", "c"], [("a", "b", 10, 25, 1), ("b", "c", 10, 25, 1), ("c", "a", 10, 25, 1)])
        bar = self.barred(Alone(), net, X, X >> 1)
        self.assertEqual(bar.event, "a")
        self.assert_fixing_ring(net, X, "a", bar.ring, False)
        self.assertEqual(len(Daily().lead(net, X, X >> 1)), 1)

    def test_before_path_bars(self):
        goal = CHAIN_GOAL + Shift({"d": 1, "e": 1})
        bar = self.barred(Daily("e", "d", "b"), CHAIN, CHAIN_START, goal)
        self.assertEqual((bar.KIND, bar.event), ("fixed", "d"))


class PathBarTest(LeadCase):

    def assert_path_bar(self, bar, net, start, first, second, held):
        self.assertIs(type(bar), PathBar)
        self.assertEqual((bar.first, bar.second), (first, second))
        self.assertEqual(bar.walk, Base(net).path(first, second))
        self.assert_fixing_ring(net, start, first, bar.first_ring, first in held)
        self.assert_fixing_ring(net, start, second, bar.second_ring, second in held)

    def test_held_events(self):
        for held, first, second in [("bd", "b", "d"), ("db", "b", "d"), ("ebad", "a", "d"), ("ea", "a", "e")]:
            bar = self.barred(Daily(*held), CHAIN, CHAIN_START, CHAIN_GOAL)
            self.assert_path_bar(bar, CHAIN, CHAIN_START, first, second, held)

    def test_groups_for_alone_moves(self):
        for held in [(), ("a",), ("d",), ("a", "d"), ("b", "e")]:
            bar = self.barred(Alone(*held), CHAIN, CHAIN_START, CHAIN_GOAL)
            self.assert_path_bar(bar, CHAIN, CHAIN_START, "a", "d", held)

    def test_order_of_the_net(self):
        # In this order d is the first fixed event, and b the first one with a different turn.
        net = Net(30, ["d", "e", "c", "b", "a"], CHAIN.spans)
        bar = self.barred(Alone(), net, CHAIN_START, CHAIN_GOAL)
        self.assert_path_bar(bar, net, CHAIN_START, "d", "b", [])
        bar = self.barred(Daily("a", "b", "e"), net, CHAIN_START, CHAIN_GOAL)
        self.assert_path_bar(bar, net, CHAIN_START, "e", "b", "abe")

    def test_first_piece(self):
        # The same row of events twice; the events of the second one come first and last.
        again = [(*[{"a": "f", "b": "g", "c": "h", "d": "i", "e": "j"}[name] for name in span[:2]], *span[2:])
                 for span in CHAIN.spans]
        net = Net(30, ["h", "a", "b", "c", "d", "e", "f", "g", "i", "j"], CHAIN.spans + again)
        start, goal = [Times(30, {**times.minutes, **dict(zip("fghij", times.minutes.values()))})
                       for times in [CHAIN_START, CHAIN_GOAL]]
        for held, first, second in [("abdefgij", "f", "i"), ("adgj", "g", "j"), ("adg", "a", "d"), ("ij", None, None),
                                    ("eb", "b", "e")]:
            if first is None:
                self.assertEqual(Daily(*held).lead(net, start, goal).goal, goal)
            else:
                self.assert_path_bar(self.barred(Daily(*held), net, start, goal), net, start, first, second, held)

    def test_one_fixed_event_is_no_bar(self):
        for name in "abcde":
            if name != "c":
                self.assertEqual(Daily(name).lead(CHAIN, CHAIN_START, CHAIN_GOAL).shift[name], 0)


class ReasonsTest(LeadCase):
    """On small nets: the first bar that applies, by the words of point 21."""

    def first_bar(self, net, start, goal, manner):
        base = Base(net)
        for ring in base.rings:
            if turn(net, start, ring) != turn(net, goal, ring):
                return ("ring", ring)
        fixed = manner.fixed(Island(net, start))
        for name in fixed:
            if start[name] != goal[name]:
                return ("fixed", name)
        for piece in net.pieces:
            inside = [name for name in fixed if name in piece]
            for name in inside[1:]:
                if turn(net, start, base.path(inside[0], name)) != turn(net, goal, base.path(inside[0], name)):
                    return ("path", inside[0], name)
        return None

    def told(self, bar):
        return (bar.KIND, *{"ring": ["ring"], "fixed": ["event"], "path": ["first", "second"]}[bar.KIND])

    def test_first_bar(self):
        chance = random.Random("bars")
        kinds = {}
        for net in [*small_nets(50, "bars"), *chained_nets(50, "bars")]:
            every = Search(net).times
            for start in chance.sample(every, min(2, len(every))):
                for held in [[], chance.sample(net.events, 1), chance.sample(net.events, 2)]:
                    near = [goal for goal in every if all(goal[name] == start[name] for name in held)]
                    for goal in [*chance.sample(every, min(5, len(every))), *chance.sample(near, min(40, len(near)))]:
                        for manner in [Daily(*held), Alone(*held)]:
                            expected = self.first_bar(net, start, goal, manner)
                            if expected is None:
                                self.assertIs(type(manner.lead(net, start, goal)), Plan)
                                continue
                            bar = self.barred(manner, net, start, goal)
                            found = [getattr(bar, name) for name in self.told(bar)[1:]]
                            self.assertEqual((bar.KIND, *found), expected)
                            kinds[bar.KIND] = kinds.get(bar.KIND, 0) + 1
        self.assertTrue(all(kinds.get(kind, 0) > 9 for kind in ["ring", "fixed", "path"]), kinds)


class TotalShiftTest(LeadCase):

    def assert_shift(self, manner, net, start, goal, moves):
        plan = manner.lead(net, start, goal)
        self.assertEqual(plan.shift.moves, moves)
        self.assertEqual(len(plan), manner.fewest(plan.shift))
        self.assertEqual(start + plan.shift, goal)

    def test_examples_of_the_interface(self):
        self.assertEqual(len(Daily().lead(NET, X, Y)), 4)
        self.assert_shift(Daily(), NET, X, Y, {"b": -4})
        self.assert_shift(Alone("a"), NET, X, Y, {"b": -4})

    def test_start_equal_to_goal(self):
        for kind in [Daily, Alone]:
            for held in [(), ("a",), ("c", "b", "a")]:
                for times in [X, Z]:
                    self.assert_shift(kind(*held), NET, times, times, {})
            self.assert_shift(kind(), RINGS, in_rings(X, Z), in_rings(X, Z), {})

    def test_order_of_the_names_does_not_count(self):
        goal = Times(30, {"c": 20, "b": 6, "a": 0})
        self.assert_shift(Daily(), NET, Times(30, {"c": 20, "a": 0, "b": 10}), goal, {"b": -4})

    def test_nets_without_events_and_without_spans(self):
        empty, nothing = Net(30, [], []), Times(30, {})
        for manner in [Daily(), Alone()]:
            self.assert_shift(manner, empty, nothing, nothing, {})
            net = Net(30, ["b", "a", "c"], [])
            start, goal = Times(30, {"a": 1, "b": 2, "c": 3}), Times(30, {"a": 29, "b": 17, "c": 17})
            self.assert_shift(manner, net, start, goal, {"a": -2, "b": 15, "c": 14})

    def test_greater_number_if_equally_many_moves_are_needed(self):
        net = Net(30, ["a"], [])
        for manner in [Daily(), Alone()]:
            for start, goal, entry in [(0, 15, 15), (20, 5, 15), (0, 16, -14), (0, 14, 14), (3, 3, 0)]:
                moves = {"a": entry} if entry else {}
                self.assert_shift(manner, net, Times(30, {"a": start}), Times(30, {"a": goal}), moves)
        # Two events move by -10 and -20 minutes, or by 20 and 10.
        net = Net(30, ["b", "a"], [("a", "b", 3, 20, 1)])
        start, goal = Times(30, {"a": 0, "b": 5}), Times(30, {"a": 10, "b": 25})
        self.assert_shift(Daily(), net, goal, start, {"a": 20, "b": 10})
        self.assert_shift(Alone(), net, goal, start, {"a": 20, "b": 10})
        self.assert_shift(Daily(), net, start, goal, {"a": 10, "b": 20})

    def test_fewest_daily_moves_by_height_and_alone_moves_by_size(self):
        # From a on the total shift grows by 0, 20 and 20 minutes.
        goal = row_times(0, 20, 20)
        self.assert_shift(Daily(), ROW, ROW_START, goal, {"a": -30, "b": -30, "c": -10, "d": 10})
        self.assert_shift(Alone(), ROW, ROW_START, goal, {"c": 20, "d": 40})

    def test_fixed_events_stay_and_others_move_by_whole_rounds(self):
        goal = row_times(10, 10, 10)
        self.assertEqual(goal["d"], 0)
        for kind in [Daily, Alone]:
            self.assert_shift(kind("a"), ROW, ROW_START, goal, {"b": 10, "c": 20, "d": 30})
            self.assert_shift(kind("d"), ROW, ROW_START, goal, {"a": -30, "b": -20, "c": -10})
            self.assert_shift(kind("d", "d"), ROW, goal, ROW_START, {"a": 30, "b": 20, "c": 10})
            self.assert_shift(kind("a"), ROW, ROW_START, row_times(0, 20, 20), {"c": 20, "d": 40})
        # The heights are 30 and 30, the greater number is that of the later shift.
        self.assert_shift(Daily(), ROW, ROW_START, goal, {"b": 10, "c": 20, "d": 30})
        self.assert_shift(Daily("a"), ROW, ROW_START, row_times(25, 20, 15), {"b": 25, "c": 45, "d": 60})

    def test_far_from_the_first_event(self):
        # The total shift grows by 27 minutes from each event to the next one.
        names = list("abcdefghijkl")
        for order in [names, names[::-1], names[6:] + names[:6]]:
            net = Net(30, order, [(start, end, 0, 27, 1) for start, end in zip(names, names[1:])])
            goal = Times(30, {name: 27 * at % 30 for at, name in enumerate(names)})
            for manner, first in [(Daily(), -150), (Alone(), -150), (Daily("a"), 0), (Alone("k"), -270)]:
                entries = {name: first + 27 * at for at, name in enumerate(names)}
                self.assert_shift(manner, net, Times.zero(30, *names), goal,
                                  {name: entry for name, entry in entries.items() if entry})

    def test_groups_stay_for_alone_moves(self):
        self.assert_shift(Alone(), CHAIN, CHAIN_START, CHAIN_START + Shift({"c": 5}), {"c": 5})
        self.assert_shift(Alone("d"), CHAIN, CHAIN_START, CHAIN_START + Shift({"c": -5}), {"c": -5})
        self.assert_shift(Daily(), CHAIN, CHAIN_START, CHAIN_START >> 24, {name: -6 for name in "abcde"})

    def test_each_piece_on_its_own(self):
        start = in_rings(X, X)
        goal = in_rings(Y, Y >> 20)
        moves = {"b": -4, "d": -10, "e": -14, "f": -10}
        self.assert_shift(Daily(), RINGS, start, goal, moves)
        self.assert_shift(Alone(), RINGS, start, goal, moves)
        self.assert_shift(Daily("a"), RINGS, start, goal, moves)
        self.assertEqual((len(Daily().lead(RINGS, start, goal)), len(Alone().lead(RINGS, start, goal))), (14, 38))
        self.assert_shift(Daily(), RINGS, start, in_rings(X >> 15, X), {"a": 15, "b": 15, "c": 15})

    def test_names_that_are_held_twice(self):
        for kind in [Daily, Alone]:
            self.assertEqual(kind("a", "c", "a").lead(NET, X, Y).shift.moves, {"b": -4})

    def test_arguments_stay(self):
        for manner in [Daily("a"), Alone("a")]:
            manner.lead(NET, X, Y)
            self.assertEqual((NET.events, X.minutes["b"], Y.minutes["b"], manner.held), (["a", "b", "c"], 10, 6, ["a"]))


class SearchTest(unittest.TestCase):
    """On small nets: whether a plan exists, and its number of moves, agree with a plain search."""

    def test_against_a_plain_search(self):
        chance = random.Random("leading")
        found = {(kind, held, reached): 0 for kind in ["daily", "alone"] for held in range(3)
                 for reached in [True, False]}
        for net in [*small_nets(60, "leading"), *chained_nets(30, "leading")]:
            search = Search(net)
            for start in chance.sample(search.times, min(2, len(search.times))):
                for held in [[], chance.sample(net.events, 1), chance.sample(net.events, 2)]:
                    for manner in [Daily(*held), Alone(*held)]:
                        for reached in self.compare(search, start, manner, chance):
                            found[manner.NAME, len(held), reached] += 1
        self.assertGreater(min(found.values()), 30, found)

    def compare(self, search, start, manner, chance):
        """Whether each of some goals is reached; plans and bars agree with that."""
        net = search.net
        distances = search.distances(start, alone=manner.NAME == "alone", held=manner.held)
        reached = [search.timetable(key) for key in chance.sample(sorted(distances), min(12, len(distances)))]
        near = [times for times in search.times if all(times[name] == start[name] for name in manner.held)]
        answers = []
        for goal in [*reached, *chance.sample(search.times, min(5, len(search.times))), *near[:8]]:
            answers.append(search.key(goal) in distances)
            try:
                plan = manner.lead(net, start, goal)
            except Barred as error:
                self.assertFalse(answers[-1])
                shown = error.reason.shows(net, start, goal, held=manner.held, alone=manner.NAME == "alone")
                self.assertIs(shown, True)
            else:
                self.assertTrue(answers[-1])
                self.assertEqual(len(plan), distances[search.key(goal)])
                self.assertEqual(start + plan.shift, goal)
                check_times(net, plan.goal)
        return answers


if __name__ == "__main__":
    unittest.main()
