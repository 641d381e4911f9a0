"""The least waits (points 2, 7 and 26, and the interface of waiting.py)."""

import random
import unittest

from checking import ErrorCase
from roundminutes import waiting
from roundminutes.errors import BadNumber, BrokenSpan, UnknownEvent, WrongNames
from roundminutes.manners import Daily
from roundminutes.nets import Net
from roundminutes.passing import check_times, waits
from roundminutes.rooms import Island
from roundminutes.shifts import Shift
from roundminutes.times import Times
from roundminutes.waiting import LeastWaits, least_waits
from samples import (
    CHAIN, CHAIN_START, MIXED, MIXED_TIMES, NET, X, Y, Z, chained_nets, large_nets, passes, small_nets)
from trying import Search


def bound_of(net, times, prices):
    """The sum of point 26."""
    return sum([price * passes(net, times, number) - weight * least
                + min((weight - price) * least, (weight - price) * most)
                for number, ((_, _, least, most, weight), price) in enumerate(zip(net.spans, prices))])


class WaitsCase(ErrorCase):

    def assert_answer(self, net, times, held, least=None):
        found = least_waits(net, times, *held)
        self.assertIs(type(found), LeastWaits)
        check_times(net, found.times)
        self.assertEqual(waits(net, found.times), found.waits)
        self.assertIs(type(found.shift), Shift)
        self.assertIs(Island(net, times).lets(found.shift), True)
        self.assertEqual(times + found.shift, found.times)
        self.assertEqual([name for name in held if name in found.shift], [])
        # Daily moves lead there.
        self.assertEqual(Daily(*held).lead(net, times, found.times).goal, found.times)
        self.assert_prices(net, times, held, found)
        if least is not None:
            self.assertEqual(found.waits, least)
        return found

    def assert_prices(self, net, times, held, found):
        prices = found.prices
        self.assertEqual((type(prices), len(prices)), (list, len(net.spans)))
        self.assertTrue(all(type(price) is int for price in prices))
        for name in net:
            if name not in held:
                ending = sum([price for span, price in zip(net.spans, prices) if span[1] == name])
                starting = sum([price for span, price in zip(net.spans, prices) if span[0] == name])
                self.assertEqual(ending, starting)
        self.assertEqual(bound_of(net, times, prices), found.waits)


class ExamplesTest(WaitsCase):

    def test_example_of_the_interface(self):
        self.assertEqual(least_waits(NET, X).waits, 15)
        self.assert_answer(NET, X, [], 15)

    def test_all_timetables_of_the_island_have_the_same_least_waits(self):
        for times in [X, Y, X >> 7]:
            self.assert_answer(NET, times, [], 15)
        # 45 minutes too many pass on the ring; each span takes at most 20 of them.
        self.assert_answer(NET, Z, [], 20 * 1 + 20 * 2 + 5 * 3)

    def test_held_events(self):
        # From b to c pass 10 minutes, and a leaves 10 minutes too many to the lighter one of its spans.
        self.assert_answer(NET, X, ["b", "c"], 3 * 5 + 1 * 10)
        self.assert_answer(NET, X, ["c", "b", "c"], 25)
        for held in [["a"], ["b"], ["c"]]:
            self.assert_answer(NET, X, held, 15)
        found = self.assert_answer(NET, X, ["a", "b", "c"], 30)
        self.assertEqual((found.times, found.shift), (X, Shift({})))

    def test_nets_without_spans_and_without_events(self):
        found = self.assert_answer(Net(30, [], []), Times(30, {}), [], 0)
        self.assertEqual((found.times, found.prices), (Times(30, {}), []))
        times = Times(30, {"b": 7, "a": 0})
        for held in [[], ["a"], ["b", "a"]]:
            self.assertEqual(self.assert_answer(Net(30, ["a", "b"], []), times, held, 0).prices, [])

    def test_single_span(self):
        net = Net(30, ["a", "b"], [("a", "b", 5, 25, 7)])
        times = Times(30, {"a": 10, "b": 0})
        found = self.assert_answer(net, times, [], 0)
        self.assertEqual((found.times["b"] - found.times["a"]) % 30, 5)
        self.assertEqual(found.prices, [0])
        self.assertEqual(self.assert_answer(net, times, ["a"], 0).times, Times(30, {"a": 10, "b": 15}))
        self.assertEqual(self.assert_answer(net, times, ["b"], 0).times, Times(30, {"a": 25, "b": 0}))
        self.assertEqual(self.assert_answer(net, times, ["a", "b"], 105).prices, [7])

    def test_weights_of_zero(self):
        net = Net(30, NET.events, [(*span[:4], 0) for span in NET.spans])
        self.assert_answer(net, X, [], 0)
        self.assert_answer(net, X, ["a", "c"], 0)

    def test_light_spans_beside_a_heavy_one(self):
        # On the heavy span pass at least as many minutes as on the other two together.
        net = Net(60, ["a", "b", "c"], [("a", "b", 10, 40, 1), ("b", "c", 5, 10, 2), ("a", "c", 0, 30, 9)])
        times = Times(60, {"a": 0, "b": 20, "c": 27})
        self.assert_answer(net, times, [], 15 * 9)
        net = net.changed(0, least=0, most=40)
        self.assert_answer(net, times, [], 5 * 9)

    def test_several_pieces_and_held_events_of_some(self):
        for held in [[], ["a"], ["e", "f"], ["d", "e"], ["a", "b", "d"], ["f"]]:
            self.assert_answer(MIXED, MIXED_TIMES, held)
        for held in [[], ["c"], ["a", "d"], ["a", "c", "e"]]:
            self.assert_answer(CHAIN, CHAIN_START, held)

    def test_everything_is_defined_where_it_is_listed(self):
        for thing in [LeastWaits, least_waits]:
            self.assertEqual(thing.__module__, "roundminutes.waiting")
            self.assertIs(vars(waiting)[thing.__name__], thing)
        for name in ["times", "shift", "waits", "prices"]:
            self.assertIn(name, vars(LeastWaits))

    def test_later_changes_of_what_is_returned(self):
        found = least_waits(NET, X)
        found.prices.append(7)
        found.times.minutes.clear()
        found.shift.moves.clear()
        self.assertEqual((len(found.prices), X + found.shift), (3, found.times))
        self.assertEqual((X.minutes, NET.spans[0]), ({"a": 0, "b": 10, "c": 20}, ("a", "b", 5, 25, 1)))


class FaultsTest(ErrorCase):

    def test_order_of_the_document(self):
        for held in [(), ("zz",), ("a",)]:
            self.assert_error(BadNumber, [29], least_waits, NET, Times(29, {}), *held)
            self.assert_error(WrongNames, ["c"], least_waits, NET, Times(30, {"a": 0, "b": 10, "x": 1}), *held)
            self.assert_error(WrongNames, ["x"], least_waits, NET, Times(30, {**X.minutes, "x": 1}), *held)
            self.assert_error(BrokenSpan, [0], least_waits, NET, Times(30, {"a": 0, "b": 4, "c": 20}), *held)
        self.assert_error(UnknownEvent, ["zz"], least_waits, NET, X, "a", "zz", "", "b")
        self.assert_error(UnknownEvent, [""], least_waits, NET, X, "", "zz")
        self.assert_error(UnknownEvent, ["a"], least_waits, Net(30, [], []), Times(30, {}), "a")


class PricesTest(WaitsCase):
    """On larger nets the prices show that there are no lesser waits."""

    def test_any_nets(self):
        chance = random.Random("held")
        for net, times in large_nets(200, "prices"):
            for count in [0, 1, 3]:
                self.assert_answer(net, times, chance.sample(net.events, count))


class SearchTest(WaitsCase):
    """On small nets the waits agree with a plain search over all timetables that daily moves reach."""

    def test_against_a_plain_search(self):
        chance = random.Random("waits")
        less = {0: 0, 1: 0, 2: 0}
        for net in [*small_nets(80, "waits"), *chained_nets(20, "waits")]:
            search = Search(net)
            for start in chance.sample(search.times, min(2, len(search.times))):
                for count in less:
                    held = chance.sample(net.events, count)
                    reached = search.distances(start, held=held)
                    least = min([waits(net, search.timetable(key)) for key in reached])
                    found = self.assert_answer(net, start, held, least)
                    self.assertIn(search.key(found.times), reached)
                    less[count] += least < waits(net, start)
        self.assertTrue(all(less[count] > 9 for count in less), less)


if __name__ == "__main__":
    unittest.main()
