"""The faults of a new net and the order in which they are found (point 5)."""

import unittest

from roundminutes.errors import BadName, BadNumber, DoubleEvent, SameEvent, TooMany, UnknownEvent
from roundminutes.nets import Net


def round_length(parts):
    parts["round_length"] = 2


def thirteen_events(parts):
    parts["events"] += ["e", "f", "g", "h", "i", "j", "k", "l", "m"]


def first_event(parts):
    parts["events"][0] = "A"


def double_event(parts):
    parts["events"][1] = parts["events"][0]


def last_event(parts):
    parts["events"][3] = "d-d"


def many_spans(parts):
    parts["spans"] += [["a", "b", 5, 25, 1] for number in range(23)]


def change(number, place, value):
    def fault(parts):
        parts["spans"][number][place] = value
    fault.__name__ = f"span {number} item {place} is {value}"
    return fault


def same_event(number):
    def fault(parts):
        start, end = parts["spans"][number][:2]
        # An event that an earlier fault made unknown must stay in the span.
        kept = end if start in "abcd" and end not in "abcd" else start
        parts["spans"][number][:2] = [kept, kept]
    fault.__name__ = f"span {number} joins one event"
    return fault


# In the order in which the document examines the parts.
FAULTS = [
    (round_length, BadNumber, {"number": 2}),
    (thirteen_events, TooMany, {"count": 13, "limit": 12}),
    (first_event, BadName, {"name": "A"}),
    (double_event, DoubleEvent, {"name": "a"}),
    (last_event, BadName, {"name": "d-d"}),
    (many_spans, TooMany, {"count": 25, "limit": 24}),
    (change(0, 0, "x"), UnknownEvent, {"name": "x"}),
    (change(0, 1, "y"), UnknownEvent, {"name": "y"}),
    (same_event(0), SameEvent, {"name": "a"}),
    (change(0, 2, 30), BadNumber, {"number": 30}),
    (change(0, 3, 60), BadNumber, {"number": 60}),
    (change(0, 4, 100), BadNumber, {"number": 100}),
    (change(1, 0, "v"), UnknownEvent, {"name": "v"}),
    (change(1, 1, "w"), UnknownEvent, {"name": "w"}),
    (same_event(1), SameEvent, {"name": "b"}),
    (change(1, 2, -1), BadNumber, {"number": -1}),
    (change(1, 3, 4), BadNumber, {"number": 4}),
    (change(1, 4, -2), BadNumber, {"number": -2}),
]


def net_with(*faults):
    parts = {"round_length": 30, "events": ["a", "b", "c", "d"],
             "spans": [["a", "b", 5, 25, 1], ["b", "c", 5, 25, 2]]}
    for fault in faults:
        fault(parts)
    return Net(parts["round_length"], parts["events"], [tuple(span) for span in parts["spans"]])


class FaultsTest(unittest.TestCase):

    def assert_fault(self, error, attributes, *faults):
        with self.subTest([fault.__name__ for fault in faults]):
            with self.assertRaises(error) as caught:
                net_with(*faults)
            self.assertIs(type(caught.exception), error)
            for attribute, value in attributes.items():
                self.assertEqual(getattr(caught.exception, attribute), value)

    def test_no_fault(self):
        self.assertEqual(net_with().spans, [("a", "b", 5, 25, 1), ("b", "c", 5, 25, 2)])

    def test_each_fault_alone(self):
        for fault, error, attributes in FAULTS:
            self.assert_fault(error, attributes, fault)

    def test_the_first_of_two_faults(self):
        for at, (fault, error, attributes) in enumerate(FAULTS):
            for later, _, _ in FAULTS[at + 1:]:
                self.assert_fault(error, attributes, fault, later)

    def test_all_faults_from_one_on(self):
        for at, (_, error, attributes) in enumerate(FAULTS):
            self.assert_fault(error, attributes, *[fault for fault, _, _ in FAULTS[at:]])

    def assert_events(self, error, name, events):
        with self.subTest(events), self.assertRaises(error) as caught:
            Net(30, events, [])
        self.assertIs(type(caught.exception), error)
        self.assertEqual(caught.exception.name, name)

    def test_events_that_are_no_names(self):
        for name in ["", "1a", "A", "a b", "abcdefghi", "a_b"]:
            self.assert_events(BadName, name, [name])
            self.assert_events(BadName, name, ["a", name])

    def test_events_are_examined_one_after_the_other(self):
        self.assert_events(DoubleEvent, "a", ["a", "a", "B"])
        self.assert_events(BadName, "B", ["a", "B", "a"])
        self.assert_events(BadName, "B", ["B", "B"])
        self.assert_events(DoubleEvent, "b", ["a", "b", "c", "b", "a"])

    def assert_span(self, error, attribute, value, *spans):
        with self.subTest(spans), self.assertRaises(error) as caught:
            Net(30, ["a", "b"], list(spans))
        self.assertIs(type(caught.exception), error)
        self.assertEqual(getattr(caught.exception, attribute), value)

    def test_ends_of_spans(self):
        self.assert_span(UnknownEvent, "name", "c", ("c", "a", 5, 25, 1))
        self.assert_span(UnknownEvent, "name", "c", ("a", "c", 5, 25, 1))
        self.assert_span(UnknownEvent, "name", "d", ("d", "c", 5, 25, 1))
        self.assert_span(UnknownEvent, "name", "c", ("c", "c", 5, 25, 1))
        self.assert_span(UnknownEvent, "name", "", ("", "a", 5, 25, 1))
        self.assert_span(UnknownEvent, "name", "A B", ("a", "A B", 5, 25, 1))
        self.assert_span(SameEvent, "name", "b", ("b", "b", 5, 25, 1))

    def test_spans_are_examined_one_after_the_other(self):
        self.assert_span(BadNumber, "number", 100, ("a", "b", 5, 25, 100), ("c", "b", 5, 25, 1))
        self.assert_span(UnknownEvent, "name", "c", ("a", "b", 5, 25, 1), ("c", "b", 5, 25, 100))

    def test_numbers_are_examined_one_after_the_other(self):
        self.assert_span(BadNumber, "number", 31, ("a", "b", 31, 25, 100))
        self.assert_span(BadNumber, "number", 33, ("a", "b", 5, 33, 100))
        self.assert_span(BadNumber, "number", 4, ("a", "b", 5, 4, -1))
        self.assert_span(BadNumber, "number", -1, ("a", "b", 5, 5, -1))

    def test_spans_without_events(self):
        with self.assertRaises(UnknownEvent) as caught:
            Net(30, [], [("a", "b", 5, 25, 1)])
        self.assertEqual(caught.exception.name, "a")


if __name__ == "__main__":
    unittest.main()
