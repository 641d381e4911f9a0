"""New nets out of spans and out of other nets (the interface of nets.py)."""

import unittest

from roundminutes.errors import BadName, BadNumber, SameEvent, TooMany, UnknownEvent, UnknownSpan
from roundminutes.nets import Net

EVENTS = ["a", "b", "c"]
SPANS = [("a", "b", 5, 25, 1), ("b", "c", 5, 25, 3), ("c", "a", 5, 25, 2)]

NUMBERS_OF_NO_SPAN = [-1, -2, -3, -4, 3, 4, 24, 10 ** 9, -10 ** 9]


class ChangesTest(unittest.TestCase):

    def setUp(self):
        self.net = Net(30, EVENTS, SPANS)

    def tearDown(self):
        self.assertEqual((self.net.round_length, self.net.events, self.net.spans), (30, EVENTS, SPANS))
        self.assertEqual(self.net.pieces, [EVENTS])

    def assert_raised(self, error, value, call, *arguments, **named):
        """The call raises this very error, and its first attribute is the value."""
        with self.subTest([*arguments, named]):
            with self.assertRaises(error) as caught:
                call(*arguments, **named)
            self.assertIs(type(caught.exception), error)
            attribute = {BadNumber: "number", UnknownSpan: "number", TooMany: "count"}.get(error, "name")
            self.assertEqual(getattr(caught.exception, attribute), value)

    def assert_net(self, net, events, spans):
        self.assertIs(type(net), Net)
        self.assertEqual((net.round_length, net.events, net.spans), (30, events, spans))


class OfTest(ChangesTest):

    def test_events_in_the_order_of_their_first_occurrence(self):
        spans = [("d", "b", 5, 25, 1), ("a", "b", 0, 0, 0), ("b", "c", 1, 2, 3), ("c", "d", 1, 2, 3)]
        net = Net.of(30, *spans)
        self.assert_net(net, ["d", "b", "a", "c"], spans)
        self.assertEqual(net, Net(30, ["d", "b", "a", "c"], spans))

    def test_start_before_end(self):
        self.assert_net(Net.of(30, ("b", "a", 5, 25, 1)), ["b", "a"], [("b", "a", 5, 25, 1)])

    def test_without_spans(self):
        self.assert_net(Net.of(30), [], [])

    def test_off_a_net(self):
        self.assert_net(self.net.of(30, *SPANS[:1]), ["a", "b"], SPANS[:1])

    def test_round_length_is_first(self):
        self.assert_raised(BadNumber, 2, Net.of, 2)
        self.assert_raised(BadNumber, 121, Net.of, 121, ("A", "A", -1, -1, -1))

    def test_too_many_events(self):
        ring = [(chr(97 + at), chr(98 + at), 5, 25, 1) for at in range(12)]
        self.assertEqual(len(Net.of(30, *ring[:11])), 12)
        self.assert_raised(TooMany, 13, Net.of, 30, *ring)
        self.assert_raised(TooMany, 13, Net.of, 30, *ring, *ring, *ring)
        with self.assertRaises(TooMany) as caught:
            Net.of(30, ("A", "A", -1, -1, -1), *ring)
        self.assertEqual((caught.exception.count, caught.exception.limit), (14, 12))

    def test_names_before_the_number_of_spans(self):
        self.assert_raised(BadName, "B", Net.of, 30, *SPANS, ("a", "B", 5, 25, 1))
        self.assert_raised(BadName, "", Net.of, 30, *[("a", "", 5, 25, 1)] * 25)

    def test_too_many_spans(self):
        self.assertEqual(len(Net.of(30, *SPANS * 8).spans), 24)
        with self.assertRaises(TooMany) as caught:
            Net.of(30, *SPANS * 8, ("a", "a", -1, -1, -1))
        self.assertEqual((caught.exception.count, caught.exception.limit), (25, 24))

    def test_spans(self):
        self.assert_raised(SameEvent, "a", Net.of, 30, ("a", "a", -1, -1, -1))
        self.assert_raised(BadNumber, -1, Net.of, 30, ("a", "b", -1, 40, 100))
        self.assert_raised(BadNumber, 40, Net.of, 30, ("a", "b", 5, 40, 100))
        self.assert_raised(BadNumber, 100, Net.of, 30, ("a", "b", 5, 25, 100))


class SpanTest(ChangesTest):

    def test_each_span(self):
        for number in range(3):
            self.assertEqual(self.net.span(number), SPANS[number])
            self.assertIs(type(self.net.span(number)), tuple)

    def test_numbers_of_no_span(self):
        for number in NUMBERS_OF_NO_SPAN:
            self.assert_raised(UnknownSpan, number, self.net.span, number)
        self.assert_raised(UnknownSpan, 0, Net(30, EVENTS, []).span, 0)


class WithSpanTest(ChangesTest):

    def test_after_the_others(self):
        self.assert_net(self.net.with_span("c", "b", 0, 27, weight=7), EVENTS, [*SPANS, ("c", "b", 0, 27, 7)])

    def test_weight_is_one_if_it_is_not_given(self):
        self.assert_net(self.net.with_span("a", "c", 29, 29), EVENTS, [*SPANS, ("a", "c", 29, 29, 1)])

    def test_arguments_by_name(self):
        net = self.net.with_span(start="c", end="b", least=1, most=2, weight=0)
        self.assert_net(net, EVENTS, [*SPANS, ("c", "b", 1, 2, 0)])

    def test_weight_is_passed_by_name_only(self):
        with self.assertRaises(TypeError):
            self.net.with_span("a", "c", 5, 25, 1)

    def test_connects_pieces(self):
        net = Net(30, EVENTS, []).with_span("c", "a", 5, 25)
        self.assertEqual(net.pieces, [["a", "c"], ["b"]])

    def test_twenty_fifth_span_is_first(self):
        full = Net(30, EVENTS, SPANS[:1] * 23).with_span("b", "c", 1, 2)
        self.assertEqual(len(full.spans), 24)
        for span in [("a", "b", 5, 25), ("x", "x", -1, -1), ("a", "a", 5, 25)]:
            with self.subTest(span), self.assertRaises(TooMany) as caught:
                full.with_span(*span, weight=100)
            self.assertEqual((caught.exception.count, caught.exception.limit), (25, 24))
        self.assertEqual(len(full.spans), 24)

    def test_faults_in_order(self):
        call = self.net.with_span
        self.assert_raised(UnknownEvent, "x", call, "x", "y", -1, -2, weight=100)
        self.assert_raised(UnknownEvent, "y", call, "a", "y", -1, -2, weight=100)
        self.assert_raised(SameEvent, "a", call, "a", "a", -1, -2, weight=100)
        self.assert_raised(BadNumber, -1, call, "a", "b", -1, -2, weight=100)
        self.assert_raised(BadNumber, 30, call, "a", "b", 30, -2, weight=100)
        self.assert_raised(BadNumber, 4, call, "a", "b", 5, 4, weight=100)
        self.assert_raised(BadNumber, 33, call, "a", "b", 5, 33, weight=100)
        self.assert_raised(BadNumber, 100, call, "a", "b", 5, 32, weight=100)
        self.assert_raised(BadNumber, -1, call, "a", "b", 5, 5, weight=-1)


class WithoutTest(ChangesTest):

    def test_one_span(self):
        self.assert_net(self.net.without(0), EVENTS, [("b", "c", 5, 25, 3), ("c", "a", 5, 25, 2)])
        self.assert_net(self.net.without(1), EVENTS, [SPANS[0], SPANS[2]])
        self.assert_net(self.net.without(2), EVENTS, SPANS[:2])

    def test_several_spans_in_any_order(self):
        self.assert_net(self.net.without(2, 0), EVENTS, [SPANS[1]])
        self.assert_net(self.net.without(0, 2), EVENTS, [SPANS[1]])
        self.assert_net(self.net.without(1, 2, 0), EVENTS, [])

    def test_a_number_given_twice(self):
        self.assert_net(self.net.without(1, 1), EVENTS, [SPANS[0], SPANS[2]])

    def test_no_numbers(self):
        net = self.net.without()
        self.assert_net(net, EVENTS, SPANS)
        self.assertIsNot(net, self.net)

    def test_equal_spans_are_told_apart_by_number(self):
        net = Net(30, EVENTS, [SPANS[0], SPANS[1], SPANS[0]])
        self.assert_net(net.without(0), EVENTS, [SPANS[1], SPANS[0]])

    def test_events_stay(self):
        self.assertEqual(self.net.without(0, 1, 2).pieces, [["a"], ["b"], ["c"]])

    def test_first_number_of_no_span(self):
        for number in NUMBERS_OF_NO_SPAN:
            self.assert_raised(UnknownSpan, number, self.net.without, number)
            self.assert_raised(UnknownSpan, number, self.net.without, 0, number, 99)
        self.assert_raised(UnknownSpan, 5, self.net.without, 1, 5, -1)
        self.assert_raised(UnknownSpan, -1, self.net.without, -1, 5)


class ChangedTest(ChangesTest):

    def test_each_span(self):
        for number, (start, end, _, _, weight) in enumerate(SPANS):
            spans = list(SPANS)
            spans[number] = (start, end, 7, 9, weight)
            self.assert_net(self.net.changed(number, least=7, most=9), EVENTS, spans)

    def test_bounds(self):
        for least, most in [(0, 0), (0, 27), (29, 29), (29, 56)]:
            self.assertEqual(self.net.changed(1, most=most, least=least).span(1), ("b", "c", least, most, 3))

    def test_bounds_are_passed_by_name_only(self):
        with self.assertRaises(TypeError):
            self.net.changed(0, 5, 25)

    def test_number_by_name(self):
        self.assertEqual(self.net.changed(number=0, least=1, most=2).span(0), ("a", "b", 1, 2, 1))

    def test_the_same_bounds(self):
        net = self.net.changed(0, least=5, most=25)
        self.assert_net(net, EVENTS, SPANS)
        self.assertIsNot(net, self.net)

    def test_numbers_of_no_span_are_first(self):
        for number in NUMBERS_OF_NO_SPAN:
            self.assert_raised(UnknownSpan, number, self.net.changed, number, least=5, most=25)
            self.assert_raised(UnknownSpan, number, self.net.changed, number, least=-5, most=100)

    def test_bounds_out_of_range(self):
        call = self.net.changed
        for least in [-1, 30]:
            for most in [least, 25, 100]:
                self.assert_raised(BadNumber, least, call, 0, least=least, most=most)
        for least, most in [(5, 4), (5, 33), (0, -1), (0, 28), (29, 28), (29, 57)]:
            self.assert_raised(BadNumber, most, call, 2, least=least, most=most)


class MirroredTest(ChangesTest):

    def test_starts_and_ends_are_exchanged(self):
        self.assert_net(self.net.mirrored(), EVENTS,
                        [("b", "a", 5, 25, 1), ("c", "b", 5, 25, 3), ("a", "c", 5, 25, 2)])

    def test_numbers_stay_at_their_spans(self):
        net = Net(30, EVENTS, [("a", "b", 1, 2, 3), ("c", "b", 29, 40, 99)])
        self.assert_net(net.mirrored(), EVENTS, [("b", "a", 1, 2, 3), ("b", "c", 29, 40, 99)])

    def test_twice(self):
        self.assertEqual(self.net.mirrored().mirrored(), self.net)

    def test_without_spans(self):
        self.assert_net(Net(30, EVENTS, []).mirrored(), EVENTS, [])


if __name__ == "__main__":
    unittest.main()
