"""What several test files use."""

import unittest


class ErrorCase(unittest.TestCase):

    def assert_error(self, error, values, call, *arguments, **named):
        """The call raises this very error with these values of its attributes, in their order."""
        with self.subTest(call=call, arguments=arguments, named=named):
            with self.assertRaises(error) as caught:
                call(*arguments, **named)
            self.assertIs(type(caught.exception), error)
            self.assertEqual(list(vars(caught.exception).values()), values)
