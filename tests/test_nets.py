"""What a net tells, copies and bounds (points 2 and 4)."""

import unittest

from roundminutes.errors import BadNumber, TooMany
from roundminutes.nets import Net

EVENTS = ["b", "a", "d1", "c"]
SPANS = [("b", "a", 5, 25, 1), ("a", "d1", 0, 0, 0), ("d1", "a", 29, 56, 99), ("b", "a", 7, 9, 2)]

TWELVE = ["a", "b", "c", "d", "e", "f", "g", "h", "i", "j", "k", "l"]


def example():
    return Net(30, EVENTS, SPANS)


def one_span(round_length, least, most, weight=1):
    return Net(round_length, ["a", "b"], [("a", "b", least, most, weight)])


class TellingTest(unittest.TestCase):

    def test_round_length(self):
        self.assertEqual(example().round_length, 30)
        self.assertEqual(Net(61, [], []).round_length, 61)

    def test_events_in_the_order_of_the_list(self):
        self.assertEqual(example().events, ["b", "a", "d1", "c"])

    def test_spans_in_the_order_of_the_list(self):
        self.assertEqual(example().spans, SPANS)
        self.assertEqual([type(span) for span in example().spans], [tuple] * 4)

    def test_length_is_the_number_of_events(self):
        self.assertEqual(len(example()), 4)
        self.assertEqual(len(Net(30, [], [])), 0)
        self.assertEqual(len(Net(30, TWELVE, [])), 12)

    def test_iteration_goes_through_the_events(self):
        self.assertEqual([name for name in example()], ["b", "a", "d1", "c"])
        self.assertEqual(list(Net(30, [], [])), [])

    def test_iteration_can_be_repeated_and_nested(self):
        net = Net(30, ["b", "a"], [])
        self.assertEqual([first + second for first in net for second in net], ["bb", "ba", "ab", "aa"])
        self.assertEqual(list(net), list(net))

    def test_membership(self):
        net = example()
        for name in EVENTS:
            self.assertIs(name in net, True)
        for name in ["e", "", "d", "A", "ba", "1"]:
            self.assertIs(name in net, False)
        self.assertIs("a" in Net(30, [], []), False)

    def test_net_without_anything(self):
        net = Net(30, [], [])
        self.assertEqual((net.events, net.spans, net.pieces), ([], [], []))

    def test_class_values(self):
        values = (Net.SHORTEST, Net.LONGEST, Net.EVENTS, Net.SPANS, Net.HEAVIEST)
        self.assertEqual(values, (3, 120, 12, 24, 99))
        net = example()
        self.assertEqual((net.SHORTEST, net.LONGEST, net.EVENTS, net.SPANS, net.HEAVIEST), values)

    def test_arguments_by_name(self):
        self.assertEqual(Net(round_length=30, events=EVENTS, spans=SPANS), example())

    def test_everything_is_defined_in_the_class(self):
        self.assertEqual(Net.__module__, "roundminutes.nets")
        for name in ["__init__", "__len__", "__iter__", "__contains__", "__eq__", "of", "round_length", "events",
                     "spans", "pieces", "span", "with_span", "without", "changed", "mirrored", "SHORTEST", "LONGEST",
                     "EVENTS", "SPANS", "HEAVIEST"]:
            with self.subTest(name):
                self.assertIn(name, vars(Net))


class CopyTest(unittest.TestCase):

    def test_later_changes_of_the_lists_passed_in(self):
        events, spans = list(EVENTS), list(SPANS)
        net = Net(30, events, spans)
        events.append("e")
        events[0] = "x"
        spans.pop(0)
        spans.append(("c", "b", 1, 2, 3))
        self.assertEqual(net.events, EVENTS)
        self.assertEqual(net.spans, SPANS)
        self.assertEqual(net.pieces, [["b", "a", "d1"], ["c"]])
        self.assertEqual((len(net), list(net), "x" in net), (4, EVENTS, False))
        self.assertEqual(net, example())

    def test_lists_passed_in_stay(self):
        events, spans = list(EVENTS), list(SPANS)
        net = Net(30, events, spans)
        net.with_span("c", "a", 1, 2)
        net.without(0, 1)
        net.changed(0, least=1, most=2)
        net.mirrored()
        net.events.append("e")
        net.spans.clear()
        net.pieces.clear()
        self.assertEqual(events, EVENTS)
        self.assertEqual(spans, SPANS)

    def test_lists_passed_in_stay_after_an_error(self):
        events, spans = list(EVENTS), [*SPANS, ("a", "a", 1, 2, 3)]
        with self.assertRaises(ValueError):
            Net(30, events, spans)
        self.assertEqual(events, EVENTS)
        self.assertEqual(spans, [*SPANS, ("a", "a", 1, 2, 3)])

    def test_changes_of_the_lists_returned(self):
        net = example()
        net.events.append("e")
        net.events[0] = "x"
        net.spans.pop()
        net.spans.reverse()
        self.assertEqual(net.events, EVENTS)
        self.assertEqual(net.spans, SPANS)
        self.assertEqual(list(net), EVENTS)
        self.assertEqual(net, example())

    def test_changes_of_the_pieces_returned(self):
        net = example()
        pieces = net.pieces
        pieces[0].append("x")
        pieces[1].clear()
        pieces.append(["y"])
        self.assertEqual(net.pieces, [["b", "a", "d1"], ["c"]])
        self.assertEqual(net, example())
        self.assertEqual(net.events, EVENTS)

    def test_properties_return_lists(self):
        net = example()
        for value in [net.events, net.spans, net.pieces, *net.pieces]:
            self.assertIs(type(value), list)


class EqualityTest(unittest.TestCase):

    def test_equal_nets(self):
        self.assertIs(example() == example(), True)
        self.assertIs(example() != example(), False)
        self.assertIs(Net(3, [], []) == Net(3, [], []), True)

    def test_another_round_length(self):
        self.assertIs(Net(31, EVENTS, SPANS) == example(), False)
        self.assertIs(Net(31, EVENTS, SPANS) != example(), True)
        self.assertIs(Net(3, [], []) == Net(4, [], []), False)

    def test_other_events(self):
        for events in [["a", "b", "d1", "c"], ["b", "a", "d1"], ["b", "a", "d1", "e"], [*EVENTS, "e"]]:
            with self.subTest(events):
                self.assertIs(Net(30, events, SPANS) == example(), False)

    def test_other_spans(self):
        first = SPANS[0]
        others = [[("a", "b", 5, 25, 1)], [("b", "c", 5, 25, 1)], [("b", "a", 6, 25, 1)], [("b", "a", 5, 24, 1)],
                  [("b", "a", 5, 25, 2)], [], [first, first]]
        for spans in others:
            with self.subTest(spans):
                self.assertIs(Net(30, EVENTS, spans + SPANS[1:]) == example(), False)

    def test_order_of_the_spans_counts(self):
        self.assertIs(Net(30, EVENTS, SPANS[::-1]) == example(), False)

    def test_other_kinds(self):
        for other in [30, "b", None, EVENTS, (30, EVENTS, SPANS)]:
            with self.subTest(other):
                self.assertIs(example() == other, False)
                self.assertIs(example() != other, True)


class BoundsTest(unittest.TestCase):

    def test_round_lengths(self):
        for round_length in [3, 4, 60, 119, 120]:
            self.assertEqual(Net(round_length, [], []).round_length, round_length)
        for round_length in [2, 1, 0, -1, -3, 121, 1000, 10 ** 9, -10 ** 9]:
            with self.subTest(round_length), self.assertRaises(BadNumber) as caught:
                Net(round_length, [], [])
            self.assertEqual(caught.exception.number, round_length)

    def test_numbers_of_events(self):
        for count in range(13):
            self.assertEqual(len(Net(30, TWELVE[:count], [])), count)
        for extra in [["m"], ["m", "n"], ["a"], [""]]:
            with self.subTest(extra), self.assertRaises(TooMany) as caught:
                Net(30, TWELVE + extra, [])
            self.assertEqual((caught.exception.count, caught.exception.limit), (12 + len(extra), 12))

    def test_numbers_of_spans(self):
        for count in [0, 1, 23, 24]:
            self.assertEqual(len(Net(30, EVENTS, SPANS[:1] * count).spans), count)
        for count in [25, 26, 48]:
            with self.subTest(count), self.assertRaises(TooMany) as caught:
                Net(30, EVENTS, SPANS[:1] * count)
            self.assertEqual((caught.exception.count, caught.exception.limit), (count, 24))

    def test_numbers_that_are_let(self):
        for round_length in [3, 4, 30, 120]:
            for least in [0, 1, round_length - 2, round_length - 1]:
                for most in [least, least + round_length - 3]:
                    for weight in [0, 1, 98, 99]:
                        span = ("a", "b", least, most, weight)
                        self.assertEqual(one_span(round_length, least, most, weight).spans, [span])

    def assert_bad_number(self, number, *arguments):
        with self.subTest(arguments), self.assertRaises(BadNumber) as caught:
            one_span(*arguments)
        self.assertEqual(caught.exception.number, number)

    def test_least_out_of_range(self):
        for round_length in [3, 30, 120]:
            for least in [-1, -2, -10 ** 9, round_length, round_length + 1, 10 ** 9]:
                self.assert_bad_number(least, round_length, least, least)

    def test_most_out_of_range(self):
        for round_length in [3, 30, 120]:
            for least in [0, 1, round_length - 1]:
                for most in [least - 1, -10 ** 9, least + round_length - 2, least + round_length, 10 ** 9]:
                    self.assert_bad_number(most, round_length, least, most)

    def test_weight_out_of_range(self):
        for weight in [-1, -10 ** 9, 100, 101, 10 ** 9]:
            self.assert_bad_number(weight, 30, 5, 25, weight)


if __name__ == "__main__":
    unittest.main()
