"""The base of a net (points 2, 8 and 12, and the class Base of rings.py)."""

import unittest

from checking import ErrorCase
from roundminutes.errors import UnknownEvent
from roundminutes.nets import Net
from roundminutes.rings import Base, is_ring
from samples import MIXED, NET, small_nets, step_ends


def bare(events, *pairs):
    """A net with spans between these pairs of events, such as "ab"."""
    return Net(30, events, [(start, end, 5, 25, 1) for start, end in pairs])


class TellingTest(unittest.TestCase):

    def assert_base(self, net, tree, closing, rings):
        base = Base(net)
        self.assertEqual((base.tree, base.closing, base.rings), (tree, closing, rings))
        self.assertEqual(len(base), len(rings))

    def test_example_of_the_interface(self):
        self.assert_base(NET, [0, 1], [2], [[(2, 1), (0, 1), (1, 1)]])

    def test_nets_without_spans(self):
        self.assert_base(bare([]), [], [], [])
        self.assert_base(bare(["a"]), [], [], [])
        self.assert_base(bare(["a", "b", "c"]), [], [], [])

    def test_trees(self):
        self.assert_base(bare(["a", "b", "c"], "ca", "ba"), [0, 1], [], [])

    def test_several_spans_between_the_same_events(self):
        self.assert_base(bare(["a", "b"], "ab", "ab", "ba"), [0], [1, 2], [[(1, 1), (0, -1)], [(2, 1), (0, 1)]])

    def test_several_pieces(self):
        self.assert_base(MIXED, [0, 1, 3], [2, 4, 5, 6],
                         [[(2, 1), (0, 1)], [(4, 1), (0, -1)], [(5, 1), (0, 1), (3, 1)], [(6, 1), (1, 1)]])

    def test_tree_spans_may_join_larger_parts(self):
        # Span 3 joins a, b and c, d; span 4 closes a ring of both parts.
        self.assert_base(bare(["a", "b", "c", "d"], "ab", "cd", "ba", "bc", "da"), [0, 1, 3], [2, 4],
                         [[(2, 1), (0, 1)], [(4, 1), (0, 1), (3, 1), (1, 1)]])

    def test_tree_steps_backward(self):
        self.assert_base(bare(["a", "b", "c"], "ba", "cb", "ac"), [0, 1], [2], [[(2, 1), (1, 1), (0, 1)]])
        self.assert_base(bare(["a", "b", "c"], "ab", "cb", "ac"), [0, 1], [2], [[(2, 1), (1, 1), (0, -1)]])

    def test_against_the_words_of_the_document(self):
        for net in [*small_nets(100, "bases"), MIXED]:
            base = Base(net)
            tree = []
            for number in range(len(net.spans)):
                start, end = net.span(number)[:2]
                if not any(start in piece and end in piece for piece in net_of(net, tree).pieces):
                    tree.append(number)
            self.assertEqual(base.tree, tree)
            self.assertEqual(sorted(base.tree + base.closing), list(range(len(net.spans))))
            self.assertEqual(base.closing, sorted(base.closing))
            self.assertEqual([ring[0] for ring in base.rings], [(number, 1) for number in base.closing])
            for ring in base.rings:
                self.assertIs(is_ring(net, ring), True)
                self.assertEqual([number for number, _ in ring[1:] if number not in tree], [])
                begins = [step_ends(net, step)[0] for step in ring]
                self.assertEqual(len(set(begins)), len(ring))

    def test_everything_is_defined_in_the_class(self):
        for name in ["__init__", "tree", "closing", "rings", "__len__", "path"]:
            self.assertIn(name, vars(Base))


def net_of(net, numbers):
    """The net with these spans only."""
    return Net(net.round_length, net.events, [net.span(number) for number in numbers])


class PathTest(ErrorCase):

    def test_both_directions(self):
        base = Base(NET)
        for first, second, walk in [("a", "b", [(0, 1)]), ("b", "a", [(0, -1)]), ("a", "c", [(0, 1), (1, 1)]),
                                    ("c", "a", [(1, -1), (0, -1)]), ("b", "c", [(1, 1)]), ("c", "b", [(1, -1)])]:
            self.assertEqual(base.path(first, second), walk)

    def test_equal_events(self):
        for base, names in [(Base(NET), "abc"), (Base(MIXED), "abcdef"), (Base(bare(["a"])), "a")]:
            for name in names:
                self.assertEqual(base.path(name, name), [])

    def test_different_pieces(self):
        base = Base(MIXED)
        for first, second in [("a", "e"), ("e", "a"), ("f", "a"), ("d", "f"), ("c", "d")]:
            self.assertIs(base.path(first, second), None)
        self.assertIs(Base(bare(["a", "b"])).path("b", "a"), None)

    def test_past_a_fork(self):
        base = Base(bare(["a", "b", "c", "d", "e"], "ab", "cb", "bd", "ed", "ac", "ae"))
        self.assertEqual(base.path("a", "e"), [(0, 1), (2, 1), (3, -1)])
        self.assertEqual(base.path("e", "c"), [(3, 1), (2, -1), (1, -1)])
        self.assertEqual(base.path("c", "a"), [(1, 1), (0, -1)])

    def test_every_path(self):
        for net in [*small_nets(60, "paths"), MIXED]:
            base = Base(net)
            for first, second in [(a, b) for a in net for b in net]:
                walk = base.path(first, second)
                together = any(first in piece and second in piece for piece in net.pieces)
                self.assertEqual(walk is not None, together)
                if walk:
                    events = [first] + [step_ends(net, step)[1] for step in walk]
                    self.assertEqual([step_ends(net, step)[0] for step in walk], events[:-1])
                    self.assertEqual((events[-1], len(set(events))), (second, len(events)))
                    self.assertEqual([number for number, _ in walk if number not in base.tree], [])

    def test_unknown_events(self):
        base = Base(NET)
        self.assert_error(UnknownEvent, ["x"], base.path, "x", "y")
        self.assert_error(UnknownEvent, ["x"], base.path, "x", "a")
        self.assert_error(UnknownEvent, ["y"], base.path, "a", "y")
        self.assert_error(UnknownEvent, ["x"], base.path, "x", "x")
        self.assert_error(UnknownEvent, ["a"], Base(bare([])).path, "a", "a")


class CopyTest(unittest.TestCase):

    def test_later_changes_of_what_is_returned(self):
        base = Base(NET)
        base.tree.append(7)
        base.closing.clear()
        base.rings.append([])
        base.rings[0].reverse()
        base.path("a", "c").clear()
        self.assertEqual((base.tree, base.closing, base.rings), ([0, 1], [2], [[(2, 1), (0, 1), (1, 1)]]))
        self.assertEqual((base.path("a", "c"), len(base)), ([(0, 1), (1, 1)], 1))

    def test_lists_of_tuples(self):
        base = Base(NET)
        for value in [base.tree, base.closing, base.rings, base.rings[0], base.path("a", "b"), base.path("a", "a")]:
            self.assertIs(type(value), list)
        self.assertEqual({type(step) for step in base.rings[0] + base.path("c", "a")}, {tuple})


if __name__ == "__main__":
    unittest.main()
