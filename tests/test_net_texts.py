"""Texts of nets (points 2, 5, 27 and 28, and the interface of texts.py)."""

import unittest

from checking import TextCase
from roundminutes import texts
from roundminutes.errors import BadName, BadNumber, DoubleEvent, SameEvent, TooMany, UnknownEvent
from roundminutes.nets import Net
from roundminutes.texts import read_net, write_net
from samples import CHAIN, MIXED, NET, small_nets

TEXT = """round 30
event a
event b
event c
span a b 5 25 1
span b c 5 25 3
span c a 5 25 2"""

NAMES = list("abcdefghijkl")


def rows_after(*rows):
    """The rows of a text with the round length 30 and the events a and b, and rows behind them."""
    return "\n".join(["round 30", "event a", "event b", *rows])


class WriteTest(unittest.TestCase):

    def test_example(self):
        self.assertEqual(write_net(NET), TEXT)

    def test_order_of_the_net(self):
        self.assertEqual(write_net(Net(120, ["b", "a1", "zzzzzzzz"], [("zzzzzzzz", "b", 0, 117, 99)])),
                         "round 120\nevent b\nevent a1\nevent zzzzzzzz\nspan zzzzzzzz b 0 117 99")

    def test_without_events_and_spans(self):
        self.assertEqual(write_net(Net(3, [], [])), "round 3")
        self.assertEqual(write_net(Net(3, ["a"], [])), "round 3\nevent a")

    def test_everything_is_defined_where_it_is_listed(self):
        for name in ["write_net", "read_net", "write_times", "read_times", "write_shift", "read_shift", "write_walk",
                     "read_walk"]:
            self.assertEqual(vars(texts)[name].__module__, "roundminutes.texts")


class ReadTest(TextCase):

    def test_example(self):
        net = read_net(TEXT)
        self.assertIs(type(net), Net)
        self.assertEqual(net, NET)
        self.assertIs(type(net.span(0)), tuple)

    def test_there_and_back(self):
        large = Net(120, NAMES, [(start, end, 0, 117, 99) for start, end in zip(NAMES, NAMES[1:])] * 2
                    + [("l", "a", 119, 236, 0)] * 2)
        self.assertEqual((len(large), len(large.spans)), (12, 24))
        for net in [NET, MIXED, CHAIN, large, Net(3, [], []), Net(9, ["x"], []), *small_nets(40, "texts")]:
            self.assertEqual(read_net(write_net(net)), net)
            self.assertEqual(write_net(read_net(write_net(net))), write_net(net))

    def test_empty_string_has_one_row(self):
        self.assert_bad_row(1, None, read_net, "")

    def test_rows_without_a_form(self):
        for row in ["", "x", "event", "span", "round", "events a", "Event a", "event a b", "span a b 5 25",
                    "span a b 5 25 1 1", "span a b 5 25 x", "span a b 5 x 1", "span a b x 25 1", "event\ta", "#"]:
            self.assert_bad_row(4, None, read_net, rows_after(row, "x"))
        for row in ["round", "round x", "round 30 30", "30", "Round 30", "round30", "ROUND 30"]:
            self.assert_bad_row(1, None, read_net, row)

    def test_empty_words(self):
        for row in ["event c ", " event c", "event  c", "event ", " ", "span a b  5 25 1", "span a b 5 25 1 ",
                    "span a  5 25 1", "span  b 5 25 1", "span  a b 5 25 1"]:
            self.assert_bad_row(4, None, read_net, rows_after(row))
        for text in ["round 30 ", "round  30", " round 30", "round ", "\nround 30", " "]:
            self.assert_bad_row(1, None, read_net, text)

    def test_no_number_words(self):
        for word in ["+5", "-5", "05", "00", "1234567890", "5.0", "5x", "0x5", "1_0", "\u0665", "\u00b2", "5\t", "a"]:
            self.assert_bad_row(4, None, read_net, rows_after(f"span a b {word} 25 1"))
            self.assert_bad_row(4, None, read_net, rows_after(f"span a b 5 {word} 1"))
            self.assert_bad_row(4, None, read_net, rows_after(f"span a b 5 25 {word}"))
            self.assert_bad_row(1, None, read_net, f"round {word}")

    def test_newline_at_the_end(self):
        self.assert_bad_row(8, None, read_net, TEXT + "\n")
        self.assert_bad_row(2, None, read_net, "round 30\n")
        self.assert_bad_row(2, None, read_net, "round 30\n\nevent a")

    def test_rows_at_a_wrong_place(self):
        self.assert_bad_row(1, None, read_net, "event a\nround 30")
        self.assert_bad_row(1, None, read_net, "span a b 5 25 1")
        self.assert_bad_row(1, None, read_net, "event A")
        self.assert_bad_row(2, None, read_net, "round 30\nround 30")
        self.assert_bad_row(2, None, read_net, "round 30\nround 2")
        self.assert_bad_row(4, None, read_net, rows_after("round 30"))
        self.assert_bad_row(5, None, read_net, rows_after("span a b 5 25 1", "event c"))
        self.assert_bad_row(5, None, read_net, rows_after("span a b 5 25 1", "event a"))
        self.assert_bad_row(5, None, read_net, rows_after("span a b 5 25 1", "event A"))
        self.assert_bad_row(5, None, read_net, rows_after("span a b 5 25 1", "round 30"))

    def test_round_length(self):
        for number in [0, 2, 121, 999999999]:
            self.assert_bad_row(1, (BadNumber, [number]), read_net, f"round {number}\nx")
        self.assertEqual([read_net(f"round {number}").round_length for number in [3, 120]], [3, 120])

    def test_events(self):
        for name in ["A", "1", "abcdefghi", "a_", "a\r", "\u00e4", "=", "9a"]:
            self.assert_bad_row(4, (BadName, [name]), read_net, rows_after(f"event {name}", "x"))
        self.assert_bad_row(4, (DoubleEvent, ["b"]), read_net, rows_after("event b", "event A"))
        self.assertEqual(read_net("round 9\nevent event\nevent span\nevent round").events, ["event", "span", "round"])

    def test_spans(self):
        for row, kind, told in [("x b 5 25 1", UnknownEvent, "x"), ("a y 5 25 1", UnknownEvent, "y"),
                                ("X Y 99 25 100", UnknownEvent, "X"), ("a Y 99 25 100", UnknownEvent, "Y"),
                                ("x x 5 25 1", UnknownEvent, "x"), ("a a 99 25 100", SameEvent, "a"),
                                ("a b 30 30 100", BadNumber, 30), ("a b 5 4 100", BadNumber, 4),
                                ("a b 5 33 100", BadNumber, 33), ("a b 5 32 100", BadNumber, 100),
                                ("a b 999999999 0 0", BadNumber, 999999999), ("= 0 5 25 1", UnknownEvent, "=")]:
            self.assert_bad_row(4, (kind, [told]), read_net, rows_after(f"span {row}", "x"))
        net = read_net(rows_after("span a b 29 56 99", "span b a 0 0 0"))
        self.assertEqual(net.spans, [("a", "b", 29, 56, 99), ("b", "a", 0, 0, 0)])

    def test_thirteenth_event(self):
        text = "\n".join(["round 30", *[f"event {name}" for name in NAMES]])
        self.assertEqual(read_net(text).events, NAMES)
        for name in ["m", "a", "A", "1", "="]:
            self.assert_bad_row(14, (TooMany, [13, 12]), read_net, f"{text}\nevent {name}\nevent n")
        for row in ["event", "event ", "event m m", "round 30"]:
            self.assert_bad_row(14, None, read_net, f"{text}\n{row}")
        self.assert_bad_row(15, None, read_net, f"{text}\nspan a b 5 25 1\nevent m")

    def test_twenty_fifth_span(self):
        text = rows_after(*["span a b 5 25 1"] * 24)
        self.assertEqual(len(read_net(text).spans), 24)
        for row in ["a b 5 25 1", "x y 5 25 1", "a a 5 25 1", "a b 30 25 1", "A = 5 25 999999999"]:
            self.assert_bad_row(28, (TooMany, [25, 24]), read_net, f"{text}\nspan {row}\nspan {row}")
        for row in ["span a b 5 25", "span a b 5 25 x", "span  b 5 25 1", "event c", "spans a b 5 25 1"]:
            self.assert_bad_row(28, None, read_net, f"{text}\n{row}")

    def test_first_bad_row(self):
        self.assert_bad_row(2, (BadName, ["A"]), read_net, "round 30\nevent A\nx\nevent a\nevent a")
        self.assert_bad_row(1, (BadNumber, [2]), read_net, "round 2\nevent A")
        self.assert_bad_row(4, (UnknownEvent, ["c"]), read_net, rows_after("span a c 5 25 1", "span a b 5 25"))
        self.assert_bad_row(4, None, read_net, rows_after("span a b 5 25", "span a c 5 25 1"))


if __name__ == "__main__":
    unittest.main()
