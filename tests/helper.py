"""What several test files share."""

import unittest

from pulseshare.errors import PulseError

# The numbers that are farthest from 0 within thirty figures.
FAR = (10 ** 29, 10 ** 30 - 1, -(10 ** 29), -(10 ** 30 - 1))


def kinds(value):
    """The value with its kind at each depth: True is not 1, a tuple no list."""
    if isinstance(value, (list, tuple)):
        return (type(value), [kinds(part) for part in value])
    return (type(value), value)


class Case(unittest.TestCase):
    def same(self, told, wanted, words=None):
        """Told and wanted are equal, and of the same kinds throughout."""
        self.assertEqual(kinds(told), kinds(wanted), words)

    def refused(self, kind, call, *values):
        """The call is refused with this very kind, and changes no list."""
        before = [list(value) if isinstance(value, list) else value for value in values]
        with self.assertRaises(PulseError, msg=str(values)[:200]) as held:
            call(*values)
        self.assertIs(type(held.exception), kind, str(values)[:200])
        self.same(list(values), before)
