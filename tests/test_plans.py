"""Plans (points 2, 22 and 23, and the interface of plans.py)."""

import random
import unittest

from roundminutes import plans
from roundminutes.errors import Barred
from roundminutes.manners import Alone, Daily
from roundminutes.nets import Net
from roundminutes.passing import broken
from roundminutes.plans import Plan
from roundminutes.shifts import Shift
from roundminutes.times import Times
from samples import NET, X, Y, all_times, chained_nets, small_nets

# The spans let c move only behind b, and b only behind a.
QUEUE = Net(30, ["c", "b", "a"], [("a", "b", 5, 6, 1), ("b", "c", 5, 6, 1)])
QUEUE_START = Times(30, {"a": 0, "b": 5, "c": 10})
# All 2 minutes later, and c one more.
QUEUE_GOAL = Times(30, {"a": 2, "b": 7, "c": 13})


def towards(entry):
    return (entry > 0) - (entry < 0)


def moves_of(net, plan, start):
    """The moves by the words of point 23."""
    left, there, found = dict(plan.shift.moves), start, []
    while any(left.values()):
        if plan.manner_name == "daily":
            move = Shift({name: towards(left[name]) for name in left})
        else:
            moves = [Shift({name: towards(left[name])}) for name in net if left.get(name, 0)]
            move = [move for move in moves if not broken(net, there + move)][0]
        found.append(move)
        there = there + move
        left = {name: left[name] - move[name] for name in left}
    return found


class PlanTest(unittest.TestCase):

    def test_properties(self):
        for manner, name in [(Daily(), "daily"), (Alone("a"), "alone")]:
            plan = manner.lead(NET, X, Y)
            self.assertIs(type(plan), Plan)
            self.assertEqual((plan.start, plan.goal, plan.shift, plan.manner_name), (X, Y, Shift({"b": -4}), name))
            self.assertEqual(len(plan), 4)

    def test_everything_is_defined_in_the_class(self):
        self.assertEqual(Plan.__module__, "roundminutes.plans")
        self.assertIs(vars(plans)["Plan"], Plan)
        for name in ["start", "goal", "shift", "manner_name", "__len__", "steps", "stops", "back"]:
            self.assertIn(name, vars(Plan))

    def test_moves_of_the_example(self):
        for manner in [Daily(), Alone(), Daily("a"), Alone("a", "c")]:
            plan = manner.lead(NET, X, Y)
            self.assertEqual([move.moves for move in plan.steps()], [{"b": -1}] * 4)
            self.assertEqual([stop.minutes["b"] for stop in plan.stops()], [9, 8, 7, 6])
            self.assertIs(type(next(iter(plan.steps()))), Shift)
            self.assertIs(type(next(iter(plan.stops()))), Times)

    def test_no_moves(self):
        for manner in [Daily(), Alone(), Daily("b"), Alone("b")]:
            plan = manner.lead(NET, X, X)
            self.assertEqual((len(plan), list(plan.steps()), list(plan.stops()), plan.shift.moves), (0, [], [], {}))
            self.assertEqual((len(plan.back()), list(plan.back().steps())), (0, []))
        nothing = Times(30, {})
        self.assertEqual(list(Daily().lead(Net(30, [], []), nothing, nothing).stops()), [])

    def test_daily_moves_of_events_that_are_not_there_yet(self):
        net = Net(30, ["b", "a", "d", "c"], [])
        start = Times(30, {"a": 0, "b": 0, "c": 29, "d": 7})
        plan = Daily().lead(net, start, Times(30, {"a": 3, "b": 29, "c": 1, "d": 7}))
        self.assertEqual([move.moves for move in plan.steps()],
                         [{"a": 1, "b": -1, "c": 1}, {"a": 1, "c": 1}, {"a": 1}])
        self.assertEqual([stop["c"] for stop in plan.stops()], [0, 1, 1])

    def test_alone_moves_of_the_first_event_that_can_be_moved(self):
        plan = Alone().lead(QUEUE, QUEUE_START, QUEUE_GOAL)
        self.assertEqual(plan.shift.moves, {"a": 2, "b": 2, "c": 3})
        self.assertEqual(["".join(move) for move in plan.steps()], list("cbcabca"))
        self.assertEqual(["".join(move) for move in plan.back().steps()], list("cabcabc"))
        self.assertTrue(all(move.size == 1 and move.height == 1 for move in plan.steps()))

    def test_alone_moves_in_the_order_of_the_net(self):
        start, goal = Times(30, {"a": 0, "b": 0, "c": 0}), Times(30, {"a": 2, "b": 28, "c": 1})
        for events in ["abc", "cba", "bca"]:
            plan = Alone().lead(Net(30, list(events), []), start, goal)
            moves = {"a": [{"a": 1}] * 2, "b": [{"b": -1}] * 2, "c": [{"c": 1}]}
            self.assertEqual([move.moves for move in plan.steps()], sum([moves[name] for name in events], []))

    def test_more_than_a_round(self):
        net = Net(30, list("abcd"), [("a", "b", 0, 27, 1), ("b", "c", 0, 27, 1), ("c", "d", 0, 27, 1)])
        start = Times.zero(30, *"abcd")
        goal = Times(30, {"a": 0, "b": 25, "c": 15, "d": 0})
        for manner, count in [(Daily("a"), 60), (Alone("a"), 25 + 45 + 60)]:
            plan = manner.lead(net, start, goal)
            self.assertEqual((len(plan), len(list(plan.steps()))), (count, count))
            self.assertEqual(list(plan.stops())[-1], goal)
            self.assertTrue(all(stop["a"] == 0 for stop in plan.stops()))

    def test_several_calls_at_once(self):
        plan = Alone().lead(QUEUE, QUEUE_START, QUEUE_GOAL)
        first, second = iter(plan.steps()), iter(plan.stops())
        next(first)
        next(second)
        next(first)
        self.assertEqual((len(list(plan.steps())), len(list(first)), len(list(second))), (7, 5, 6))

    def test_back(self):
        for manner in [Daily(), Alone(), Daily("a"), Alone("a")]:
            plan = manner.lead(NET, X, Y)
            back = plan.back()
            self.assertIs(type(back), Plan)
            self.assertEqual((back.start, back.goal, back.manner_name, len(back)), (Y, X, manner.NAME, 4))
            self.assertEqual(back.shift.moves, {"b": 4})
            self.assertEqual(list(back.stops())[-1], X)
            again = back.back()
            self.assertEqual((again.start, again.goal, again.shift.moves, len(again)), (X, Y, {"b": -4}, 4))
            self.assertEqual((plan.start, plan.shift.moves), (X, {"b": -4}))

    def test_back_takes_the_opposite_shift_where_leading_would_take_another_one(self):
        # Later and earlier are equally far, and leading takes the later one in both directions.
        net, start, goal = Net(30, ["a"], []), Times(30, {"a": 0}), Times(30, {"a": 15})
        for manner in [Daily(), Alone()]:
            back = manner.lead(net, start, goal).back()
            self.assertEqual((back.shift.moves, len(back)), ({"a": -15}, 15))
            self.assertEqual([move.moves for move in back.steps()], [{"a": -1}] * 15)
            self.assertEqual(manner.lead(net, goal, start).shift.moves, {"a": 15})

    def test_later_changes_of_what_is_returned(self):
        plan = Daily().lead(NET, X, Y)
        plan.shift.moves.clear()
        plan.start.minutes.clear()
        plan.goal.minutes["b"] = 0
        for move in plan.steps():
            move.moves.clear()
        self.assertEqual((plan.shift.moves, plan.start, plan.goal, len(list(plan.stops()))), ({"b": -4}, X, Y, 4))


class MovesTest(unittest.TestCase):
    """On small nets: all moves are those of point 23, and all spans are kept after each one."""

    def test_all_moves(self):
        chance = random.Random("moves")
        seen = {"daily": 0, "alone": 0}
        for net in [*small_nets(60, "moves"), *chained_nets(30, "moves")]:
            every = all_times(net)
            for start in chance.sample(every, min(2, len(every))):
                for held in [[], chance.sample(net.events, 1)]:
                    near = [goal for goal in every if all(goal[name] == start[name] for name in held)]
                    for goal in chance.sample(near, min(6, len(near))):
                        for manner in [Daily(*held), Alone(*held)]:
                            try:
                                plan = manner.lead(net, start, goal)
                            except Barred:
                                continue
                            self.check_plan(net, plan, held)
                            self.check_plan(net, plan.back(), held)
                            seen[manner.NAME] += len(plan)
        self.assertGreater(min(seen.values()), 500)

    def check_plan(self, net, plan, held):
        steps, stops = list(plan.steps()), list(plan.stops())
        self.assertEqual(steps, moves_of(net, plan, plan.start))
        self.assertEqual((len(steps), len(stops)), (len(plan), len(plan)))
        there, total = plan.start, Shift({})
        for move, stop in zip(steps, stops):
            self.assertTrue(0 < move.height <= 1 and (plan.manner_name == "daily" or move.size == 1))
            self.assertFalse(any(name in move for name in held))
            there, total = there + move, total + move
            self.assertEqual(stop, there)
            self.assertEqual(broken(net, stop), [])
        self.assertEqual((there, total), (plan.goal, plan.shift))


if __name__ == "__main__":
    unittest.main()
