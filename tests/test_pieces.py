"""The pieces of a net (point 8)."""

import itertools
import unittest

from roundminutes.nets import Net


def net_of(events, *joined):
    """A net with an event for each letter and a span for each word of two letters."""
    return Net(30, list(events), [(word[0], word[1], 5, 25, 1) for word in joined])


def slow_pieces(events, joined):
    """The pieces by their definition: the events that can be reached over the spans."""
    pieces = []
    for event in events:
        if not any(event in piece for piece in pieces):
            reached = {event}
            for _ in events:
                reached |= {end for word in joined for end in word if reached & set(word)}
            pieces.append([name for name in events if name in reached])
    return pieces


class PiecesTest(unittest.TestCase):

    def test_without_events(self):
        self.assertEqual(net_of("").pieces, [])

    def test_without_spans_each_event_is_a_piece(self):
        self.assertEqual(net_of("cab").pieces, [["c"], ["a"], ["b"]])

    def test_a_span_connects_in_either_direction(self):
        self.assertEqual(net_of("abc", "ac").pieces, [["a", "c"], ["b"]])
        self.assertEqual(net_of("abc", "ca").pieces, [["a", "c"], ["b"]])

    def test_spans_in_different_directions_connect(self):
        self.assertEqual(net_of("abc", "ab", "cb").pieces, [["a", "b", "c"]])
        self.assertEqual(net_of("abc", "ba", "bc").pieces, [["a", "b", "c"]])
        self.assertEqual(net_of("abc", "ab", "bc", "ca").pieces, [["a", "b", "c"]])

    def test_several_spans_between_the_same_events(self):
        self.assertEqual(net_of("abcd", "ab", "ab", "ba").pieces, [["a", "b"], ["c"], ["d"]])

    def test_order_of_the_net(self):
        self.assertEqual(net_of("dcba", "ab", "cd").pieces, [["d", "c"], ["b", "a"]])
        self.assertEqual(net_of("zabc", "cb", "za").pieces, [["z", "a"], ["b", "c"]])
        self.assertEqual(net_of("abcd", "db", "ca").pieces, [["a", "c"], ["b", "d"]])

    def test_pieces_that_a_later_span_joins(self):
        self.assertEqual(net_of("abcdef", "ab", "cd", "ef", "db").pieces, [["a", "b", "c", "d"], ["e", "f"]])
        self.assertEqual(net_of("abcdef", "fe", "dc", "ba", "ec", "db").pieces, [["a", "b", "c", "d", "e", "f"]])

    def test_twelve_events_in_a_row(self):
        events = "lkjihgfedcba"
        joined = [events[at:at + 2] for at in range(11)]
        self.assertEqual(net_of(events, *joined).pieces, [list(events)])
        self.assertEqual(net_of(events, *joined[::-1]).pieces, [list(events)])
        self.assertEqual(net_of(events, *joined[:5], *joined[6:]).pieces, [list(events[:6]), list(events[6:])])

    def test_all_nets_with_few_spans(self):
        words = ["".join(pair) for pair in itertools.permutations("dbca", 2)]
        for count in range(4):
            for joined in itertools.product(words, repeat=count):
                self.assertEqual(net_of("dbca", *joined).pieces, slow_pieces("dbca", joined), joined)


if __name__ == "__main__":
    unittest.main()
