"""Rooms: how several shares keep under one bound at once."""

from pulseshare.errors import BadBegins, BadShare, NoRoom
from pulseshare.frames import MOST_BEATS, check_share, even

MOST_SHARES = 12
MOST_TURNED_BEATS = 12
MOST_TURNED_SHARES = 3


def check_shares(beats, shares, most_beats, most_shares):
    """Refuse beats and a list of pulses that tell no shares, or too many."""
    if not 1 <= beats <= most_beats:
        raise BadShare("too few or too many beats")
    if len(shares) > most_shares:
        raise BadShare("too many shares")
    for pulses in shares:
        check_share(beats, pulses)


def check_begins(beats, shares, begins):
    """Refuse begins that are not one beat for each share."""
    if len(begins) != len(shares):
        raise BadBegins("there is one begin for each share")
    for begin in begins:
        if not 0 <= begin < beats:
            raise BadBegins("a begin is 0 to beats less one")


def peak(beats, shares):
    """The least that must be on at once in some beat."""
    check_shares(beats, shares, MOST_BEATS, MOST_SHARES)
    # Taken below nought and back, // rounds up in place of down.
    return -(-sum(shares) // beats)


def blocks(beats, shares, bound):
    """The begins of blocks that lie one behind the other, going round."""
    if peak(beats, shares) > bound:
        raise NoRoom("the peak is more than the bound")
    begins = []
    begin = 0
    for pulses in shares:
        begins.append(begin)
        begin = (begin + pulses) % beats
    return begins


def sums(beats, shares, begins):
    """How many are on in each beat, by blocks from their begins on."""
    check_shares(beats, shares, MOST_BEATS, MOST_SHARES)
    check_begins(beats, shares, begins)
    counts = [0] * beats
    for pulses, begin in zip(shares, begins):
        for place in range(begin, begin + pulses):
            counts[place % beats] += 1
    return counts


def turn_rows(beats, many):
    """All rows of so many turns, as lists ascend."""
    rows = [[]]
    for length in range(many):
        rows = [[*row, turn] for row in rows for turn in range(beats)]
    return rows


def most_at_once(beats, frames):
    """How many of the frames are on at the most in a beat."""
    return max([sum([frame[place] for frame in frames]) for place in range(beats)])


def turned(beats, shares):
    """The least peak of even frames by their turns, and the first such turns."""
    check_shares(beats, shares, MOST_TURNED_BEATS, MOST_TURNED_SHARES)
    by_turn = [[even(beats, pulses, turn) for turn in range(beats)] for pulses in shares]
    # No peak is more than the number of shares, so the first row is taken.
    least = len(shares) + 1
    turns = []
    for row in turn_rows(beats, len(shares)):
        most = most_at_once(beats, [by_turn[at][turn] for at, turn in enumerate(row)])
        if most < least:
            least = most
            turns = row
    return (least, turns)
