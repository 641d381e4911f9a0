"""The classes of roundminutes.errors (points 2 and 5, and the interface of errors.py)."""

import unittest

from roundminutes import errors

RING = [(2, 1), (0, 1), (1, -1)]

# Each class with the arguments that the interface lists, in their order.
CLASSES = {
    "BadName": {"name": "A"},
    "BadNumber": {"number": -7},
    "UnknownEvent": {"name": "x"},
    "DoubleEvent": {"name": "a"},
    "SameEvent": {"name": "b"},
    "WrongNames": {"name": "c"},
    "HeldEvent": {"name": "d"},
    "UnknownSpan": {"number": 24},
    "BrokenSpan": {"number": 0},
    "TooMany": {"count": 13, "limit": 12},
    "WrongCount": {"count": 2, "wanted": 3},
    "BadWalk": {"at": 4},
    "ShutRing": {"way": RING},
    "Stuck": {"name": "a", "way": RING},
    "Barred": {"reason": object()},
    "BadRow": {"row": 1, "why": errors.BadName("A")},
    "BadWord": {"at": 0, "why": errors.BadNumber(200)},
    "NothingLeft": {},
}


class ErrorsTest(unittest.TestCase):

    def test_base_is_a_value_error(self):
        self.assertEqual(errors.MinuteError.__bases__, (ValueError,))

    def test_each_class_derives_directly_from_the_base(self):
        for name in CLASSES:
            with self.subTest(name):
                self.assertEqual(getattr(errors, name).__bases__, (errors.MinuteError,))

    def test_each_class_is_defined_in_the_file(self):
        for name in ["MinuteError", *CLASSES]:
            with self.subTest(name):
                self.assertEqual(getattr(errors, name).__module__, "roundminutes.errors")

    def test_classes_differ(self):
        self.assertEqual(len({getattr(errors, name) for name in CLASSES}), 18)

    def test_arguments_are_attributes(self):
        for name, arguments in CLASSES.items():
            made = getattr(errors, name)(*arguments.values())
            for attribute, value in arguments.items():
                with self.subTest(name, attribute=attribute):
                    self.assertEqual(getattr(made, attribute), value)

    def test_arguments_by_keyword(self):
        for name, arguments in CLASSES.items():
            made = getattr(errors, name)(**arguments)
            for attribute, value in arguments.items():
                with self.subTest(name, attribute=attribute):
                    self.assertEqual(getattr(made, attribute), value)

    def test_missing_arguments_are_refused(self):
        for name, arguments in CLASSES.items():
            if arguments:
                with self.subTest(name), self.assertRaises(TypeError):
                    getattr(errors, name)(*list(arguments.values())[1:])

    def test_why_may_be_none(self):
        self.assertIsNone(errors.BadRow(3, None).why)
        self.assertIsNone(errors.BadWord(3, None).why)

    def test_reason_and_why_are_kept_as_they_are(self):
        reason = object()
        why = errors.BadName("A")
        self.assertIs(errors.Barred(reason).reason, reason)
        self.assertIs(errors.BadRow(1, why).why, why)
        self.assertIs(errors.BadWord(1, why).why, why)

    def test_ways_are_copied(self):
        way = list(RING)
        shut = errors.ShutRing(way)
        stuck = errors.Stuck("a", way)
        way.append((0, 1))
        self.assertEqual(shut.way, RING)
        self.assertEqual(stuck.way, RING)

    def test_ways_that_are_passed_in_stay(self):
        way = list(RING)
        errors.ShutRing(way).way.clear()
        errors.Stuck("a", way).way.clear()
        self.assertEqual(way, RING)

    def test_ways_are_lists(self):
        self.assertIsInstance(errors.ShutRing([]).way, list)
        self.assertIsInstance(errors.Stuck("a", []).way, list)


if __name__ == "__main__":
    unittest.main()
