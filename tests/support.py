"""What several tests use."""

import unittest

# One of each kind that is neither a text nor an integer nor a tuple: none of these is anything here.
STRANGE = [None, True, False, 1.0, 0.0, b"a", [], ["a"], {}, {"a": 1}, set(), object(), len, int, ...]


def nest(deep):
    """A tuple that is nested so deep."""
    value = ()
    for _ in range(deep - 1):
        value = (value,)
    return value


class Case(unittest.TestCase):
    """A test case that also judges errors."""

    def assert_given(self, kind, given, call, *places, **names):
        """The call raises just this kind, and the error has the very object that was handed in."""
        with self.assertRaises(kind) as caught:
            call(*places, **names)
        self.assertIs(type(caught.exception), kind)
        self.assertIs(caught.exception.given, given)
        self.assertEqual(list(vars(caught.exception)), ["given"])
