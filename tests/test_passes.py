"""The easiest pass (points 2, 7 and 25, and the interface of passes.py)."""

import random
import unittest

from checking import ErrorCase
from roundminutes import passes
from roundminutes.bars import FixedBar, PathBar, RingBar
from roundminutes.errors import BadNumber, Barred, BrokenSpan, UnknownEvent, WrongNames
from roundminutes.manners import Daily
from roundminutes.nets import Net
from roundminutes.passes import Pass, easiest_pass
from roundminutes.passing import broken
from roundminutes.plans import Plan
from roundminutes.times import Times
from samples import CHAIN, CHAIN_GOAL, CHAIN_START, NET, X, Y, Z, chained_nets, small_nets
from trying import Search


def weighted(net, *weights):
    """The net with other weights."""
    return Net(net.round_length, net.events, [(*span[:4], weight) for span, weight in zip(net.spans, weights)])


def spans_of(bar):
    return [number for number, _ in (bar.ring if bar.KIND == "ring" else bar.walk)]


class PassCase(ErrorCase):

    def assert_bar(self, net, start, goal, held, weight, bar):
        """The bar shows that daily moves cannot reach the goal, with spans of at least this weight."""
        self.assertIn(type(bar), [RingBar, PathBar])
        self.assertIs(bar.shows(net, start, goal, held=held), True)
        self.assertTrue(all(net.span(number)[4] >= weight for number in spans_of(bar)))

    def assert_pass(self, net, start, goal, held, weight, dropped):
        found = easiest_pass(net, start, goal, *held)
        self.assertIs(type(found), Pass)
        self.assertEqual((found.weight, found.dropped), (weight, dropped))
        self.assertIs(type(found.plan), Plan)
        self.assertEqual((found.plan.start, found.plan.goal, found.plan.manner_name), (start, goal, "daily"))
        led = Daily(*held).lead(net.without(*dropped), start, goal)
        self.assertEqual((found.plan.shift, len(found.plan)), (led.shift, len(led)))
        self.assertEqual(list(found.plan.steps()), list(led.steps()))
        self.assertEqual((list(found.plan.stops()) or [start])[-1], goal)
        if weight is None:
            self.assertIs(found.bar, None)
        else:
            self.assert_bar(net, start, goal, held, weight, found.bar)
        return found


class ExamplesTest(PassCase):

    def test_example_of_the_interface(self):
        found = self.assert_pass(NET, X, Z, [], 1, [0])
        self.assertEqual(sorted(spans_of(found.bar)), [0, 1, 2])

    def test_no_span_has_to_go(self):
        self.assert_pass(NET, X, Y, [], None, [])
        self.assert_pass(NET, X, X, ["a", "b", "c"], None, [])
        self.assert_pass(NET, Z, Z, [], None, [])
        nothing = Times(30, {})
        self.assert_pass(Net(30, [], []), nothing, nothing, [], None, [])
        self.assert_pass(weighted(NET, 0, 0, 0), X, Y, ["a"], None, [])

    def test_least_weight_and_all_spans_of_lesser_or_equal_weight(self):
        self.assert_pass(weighted(NET, 5, 2, 2), X, Z, [], 2, [1, 2])
        self.assert_pass(weighted(NET, 7, 7, 7), X, Z, [], 7, [0, 1, 2])
        self.assert_pass(weighted(NET, 0, 99, 99), X, Z, [], 0, [0])
        self.assert_pass(weighted(NET, 99, 98, 0), X, Z, [], 0, [2])
        # The span to d is not in the way, but it is not heavier than the one that is.
        net = Net(30, [*NET.events, "d"], [("c", "d", 5, 25, 3), *weighted(NET, 6, 4, 5).spans, ("d", "c", 0, 27, 9)])
        start, goal = [Times(30, {**times.minutes, "d": 5}) for times in [X, Z >> 10]]
        self.assert_pass(net, start, goal, [], 4, [0, 2])

    def test_several_weights_have_to_go(self):
        # Without the first span, two others between the same events still make a ring.
        net = Net(30, list("abc"), [("a", "b", 5, 25, 1), ("b", "c", 5, 25, 9), ("c", "a", 5, 25, 8),
                                    ("a", "b", 5, 25, 4), ("a", "b", 4, 25, 6)])
        found = self.assert_pass(net, X, Z, [], 6, [0, 3, 4])
        self.assertEqual(sorted(spans_of(found.bar)), [1, 2, 4])

    def test_spans_of_the_plan_are_numbered_anew(self):
        net = weighted(NET, 2, 1, 3)
        plan = self.assert_pass(net, X, Z, [], 1, [1]).plan
        left = Net(30, NET.events, [net.span(0), net.span(2)])
        for stop in [*plan.stops(), *plan.back().stops()]:
            self.assertEqual(broken(left, stop), [])

    def test_path_bar(self):
        for weights, weight, dropped, held in [((1, 2, 3, 4), 2, [0, 1], "be"), ((9, 3, 3, 9), 3, [1, 2], "ae"),
                                               ((5, 6, 7, 0), 6, [0, 1, 3], "db"), ((5, 6, 7, 1), 1, [3], "eb")]:
            net = weighted(CHAIN, *weights)
            found = self.assert_pass(net, CHAIN_START, CHAIN_GOAL, held, weight, dropped)
            self.assertIs(type(found.bar), PathBar)
            self.assertEqual((found.bar.first_ring, found.bar.second_ring), ([], []))
            self.assertEqual({found.bar.first, found.bar.second}, set(held))
            self.assertEqual([move[name] for move in found.plan.steps() for name in held if name in move], [])

    def test_held_names_given_twice(self):
        self.assert_pass(CHAIN, CHAIN_START, CHAIN_GOAL, ["b", "e", "b", "e"], 1, [0, 1, 2, 3])

    def test_everything_is_defined_where_it_is_listed(self):
        for thing in [Pass, easiest_pass]:
            self.assertEqual(thing.__module__, "roundminutes.passes")
            self.assertIs(vars(passes)[thing.__name__], thing)
        for name in ["weight", "dropped", "plan", "bar"]:
            self.assertIn(name, vars(Pass))

    def test_later_changes_of_what_is_returned(self):
        found = easiest_pass(NET, X, Z)
        found.dropped.clear()
        found.bar.ring.clear()
        self.assertEqual((found.dropped, len(found.bar.ring)), ([0], 3))
        self.assertEqual((len(NET.spans), X.minutes, Z.minutes),
                         (3, {"a": 0, "b": 10, "c": 20}, {"a": 0, "b": 20, "c": 10}))


class FaultsTest(PassCase):

    def test_order_of_the_document(self):
        broken_times = Times(30, {"a": 0, "b": 4, "c": 20})
        for held in [(), ("zz",), ("b",)]:
            self.assert_error(BadNumber, [29], easiest_pass, NET, Times(29, {}), broken_times, *held)
            self.assert_error(WrongNames, ["a"], easiest_pass, NET, Times(30, {}), broken_times, *held)
            self.assert_error(BrokenSpan, [0], easiest_pass, NET, broken_times, Times(29, {}), *held)
            self.assert_error(BadNumber, [29], easiest_pass, NET, X, Times(29, {}), *held)
            self.assert_error(WrongNames, ["x"], easiest_pass, NET, X, Times(30, {**X.minutes, "x": 1}), *held)
            self.assert_error(BrokenSpan, [0], easiest_pass, NET, X, broken_times, *held)
        self.assert_error(UnknownEvent, ["zz"], easiest_pass, NET, X, Z, "b", "zz", "yy", "c")
        self.assert_error(UnknownEvent, ["zz"], easiest_pass, NET, X, X, "zz")

    def test_held_event_with_different_minutes(self):
        for goal, held, event in [(Z, "cb", "b"), (Z, "c", "c"), (Y, "abc", "b"), (Y, "bb", "b"), (X >> 1, "cba", "a")]:
            with self.assertRaises(Barred) as caught:
                easiest_pass(NET, X, goal, *held)
            bar = caught.exception.reason
            self.assertIs(type(bar), FixedBar)
            self.assertEqual((bar.event, bar.ring), (event, []))
            self.assertIs(bar.shows(NET, X, goal, held=held), True)


class SearchTest(PassCase):
    """On small nets the weight agrees with a plain search weight by weight."""

    def test_against_a_plain_search(self):
        chance = random.Random("passes")
        kinds = {}
        for net in [*small_nets(30, "passes"), *chained_nets(40, "passes")]:
            search = Search(net)
            # Weights of several spans are often equal.
            net = weighted(net, *[chance.randrange(4) for _ in net.spans])
            for start in chance.sample(search.times, min(2, len(search.times))):
                for held in [[], chance.sample(net.events, 1), chance.sample(net.events, 2)]:
                    near = [goal for goal in search.times if all(goal[name] == start[name] for name in held)]
                    goals = chance.sample(near, min(4, len(near)))
                    goals += [goal for goal in near if self.has_path_bar(net, start, goal, held)][:2]
                    for goal, (weight, dropped) in zip(goals, self.weights(net, start, goals, held)):
                        bar = self.assert_pass(net, start, goal, held, weight, dropped).bar
                        kind = "none" if bar is None else bar.KIND
                        kinds[kind] = kinds.get(kind, 0) + 1
        self.assertTrue(all(kinds.get(kind, 0) > 2 for kind in ["none", "ring", "path"]), kinds)

    def has_path_bar(self, net, start, goal, held):
        """Few goals have one, so they are sought."""
        try:
            Daily(*held).lead(net, start, goal)
        except Barred as error:
            return error.reason.KIND == "path"
        return False

    def weights(self, net, start, goals, held):
        """For each goal the least weight at which a plain search finds it, and the spans that are let go."""
        found = {}
        for weight in [None, *range(4)]:
            dropped = [number for number, span in enumerate(net.spans) if weight is not None and span[4] <= weight]
            if len(found) < len(goals):
                search = Search(net.without(*dropped))
                distances = search.distances(start, held=held)
                for at, goal in enumerate(goals):
                    if search.key(goal) in distances:
                        found.setdefault(at, (weight, dropped))
        return [found[at] for at in range(len(goals))]


if __name__ == "__main__":
    unittest.main()
