"""Streams: the pulses of shares that change from beat to beat."""

from pulseshare.errors import BadShare

MOST_WHOLE = 10 ** 12


class Stream:
    """Gathers shares of a whole, and gives a pulse for each whole."""

    def __init__(self, whole):
        if not 1 <= whole <= MOST_WHOLE:
            raise BadShare("a whole is 1 to 10 ** 12")
        self.whole = whole
        self.left = 0
        self.told = 0

    def next(self, share):
        """1 if this share completes a whole, otherwise 0."""
        if not 0 <= share <= self.whole:
            raise BadShare("a share is 0 to the whole")
        self.left += share
        if self.left < self.whole:
            return 0
        # No share is more than the whole, so never two are complete at once.
        self.left -= self.whole
        self.told += 1
        return 1

    def rest(self):
        """What is left of the shares beside the wholes."""
        return self.left

    def pulses(self):
        """How many pulses were told so far."""
        return self.told


def pulsed(whole, shares):
    """All that a new stream tells of the shares, in their order."""
    stream = Stream(whole)
    told = []
    for share in shares:
        told.append(stream.next(share))
    return told
