"""What several test files use."""

import unittest

from roundminutes.errors import BadRow, BadWord


class ErrorCase(unittest.TestCase):

    def assert_error(self, error, values, call, *arguments, **named):
        """The call raises this very error with these values of its attributes, in their order."""
        with self.subTest(call=call, arguments=arguments, named=named):
            with self.assertRaises(error) as caught:
                call(*arguments, **named)
            self.assertIs(type(caught.exception), error)
            self.assertEqual(list(vars(caught.exception).values()), values)


class TextCase(ErrorCase):

    def assert_why(self, error, why):
        """The error has this `why`, None or (kind of error, values), and is raised from it."""
        self.assertIs(error.__cause__, error.why)
        if why is None:
            self.assertIs(error.why, None)
        else:
            kind, values = why
            self.assertIs(type(error.why), kind)
            self.assertEqual(list(vars(error.why).values()), values)

    def assert_bad_row(self, row, why, call, *arguments, **named):
        """The call raises BadRow with this number; its `why` is None or (kind of error, values)."""
        with self.subTest(call=call, arguments=arguments, named=named):
            with self.assertRaises(BadRow) as caught:
                call(*arguments, **named)
            self.assertIs(type(caught.exception), BadRow)
            self.assertEqual(caught.exception.row, row)
            self.assert_why(caught.exception, why)

    def assert_bad_word(self, at, why, call, *arguments):
        """The call raises BadWord with this number; its `why` is None or (kind of error, values)."""
        with self.subTest(call=call, arguments=arguments):
            with self.assertRaises(BadWord) as caught:
                call(*arguments)
            self.assertIs(type(caught.exception), BadWord)
            self.assertEqual(caught.exception.at, at)
            self.assert_why(caught.exception, why)
