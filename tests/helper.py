"""What several test files share."""

import itertools
import unittest

from pulseshare.errors import PulseError

# The numbers that are farthest from 0 within thirty figures.
FAR = (10 ** 29, 10 ** 30 - 1, -(10 ** 29), -(10 ** 30 - 1))

BAD_SHARES = (
    (0, 0), (0, 1), (-1, 0), (-1, -1), (-64, 3), (65, 0), (65, 3), (65, 65), (66, 66), (128, 64),
    (1, -1), (1, 2), (8, -1), (8, -3), (8, 9), (8, 64), (64, -1), (64, 65), (63, 64),
)

BAD_FRAMES = (
    [], [0] * 65, [1] * 65, [0, 1] * 33, [2], [-1], [0, 1, 2], [2, 0, 1], [0, -1, 1], [0, 3, 1],
    [0] * 63 + [2], [1] * 63 + [-1], [2] + [1] * 63, [0, 1] * 40, [2] * 65,
)


def all_frames(most):
    """Every frame of up to so many beats."""
    for beats in range(1, most + 1):
        for beat_row in itertools.product((0, 1), repeat=beats):
            yield list(beat_row)


def told_even(beats, pulses, turn):
    """The frame of point 3, in the document's words."""
    return [
        int((k + 1 + turn) * pulses // beats > (k + turn) * pulses // beats) for k in range(beats)
    ]


def kinds(value):
    """The value with its kind at each depth: True is not 1, a tuple no list."""
    if isinstance(value, (list, tuple)):
        return (type(value), [kinds(part) for part in value])
    return (type(value), value)


class Case(unittest.TestCase):
    def same(self, told, wanted, words=None):
        """Told and wanted are equal, and of the same kinds throughout."""
        self.assertEqual(kinds(told), kinds(wanted), words)

    def refused(self, kind, call, *values):
        """The refusal of the call, which is of this very kind and changes no list."""
        before = [list(value) if isinstance(value, list) else value for value in values]
        with self.assertRaises(PulseError, msg=str(values)[:200]) as held:
            call(*values)
        self.assertIs(type(held.exception), kind, str(values)[:200])
        self.same(list(values), before)
        return held.exception
