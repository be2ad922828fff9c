"""Frames: lists of beats that go round, and the ones that are spread evenly."""

from pulseshare.errors import BadFrame, BadShare, BadWidth

MOST_BEATS = 64
MOST_WIDTH = 10000


def check_frame(frame):
    """Refuse a list that is no frame."""
    if not 1 <= len(frame) <= MOST_BEATS:
        raise BadFrame("a frame has 1 to 64 beats")
    for beat in frame:
        if beat not in (0, 1):
            raise BadFrame("a beat is 0 or 1")


def check_share(beats, pulses):
    """Refuse numbers that tell no share."""
    if not 1 <= beats <= MOST_BEATS:
        raise BadShare("a share has 1 to 64 beats")
    if not 0 <= pulses <= beats:
        raise BadShare("a share has from no pulse to as many as beats")


def check_width(width):
    """Refuse a width that no window has."""
    if not 1 <= width <= MOST_WIDTH:
        raise BadWidth("a width is 1 to 10000")


def pulses_ahead(at, beats, pulses):
    """How many pulses of an even share are due ahead of a place."""
    return at * pulses // beats


def even(beats, pulses, turn):
    """The even frame of a share, by a turn."""
    check_share(beats, pulses)
    frame = []
    for place in range(beats):
        ahead = pulses_ahead(place + turn, beats, pulses)
        behind = pulses_ahead(place + 1 + turn, beats, pulses)
        frame.append(1 if behind > ahead else 0)
    return frame


def window_counts(frame, width):
    """How many are on in the window of a width from each beat on."""
    beats = len(frame)
    # A window that goes all round has all pulses each time, wherever it
    # begins: only what is left beside the rounds has to be looked at.
    in_rounds = width // beats * sum(frame)
    left = width % beats
    twice = frame + frame
    return [in_rounds + sum(twice[at:at + left]) for at in range(beats)]


def spans(frame, width):
    """The fewest and the most that are on in a window of a width."""
    check_frame(frame)
    check_width(width)
    counts = window_counts(frame, width)
    return (min(counts), max(counts))


def is_even(frame):
    """Whether windows of the same width are never more than one apart."""
    check_frame(frame)
    # One round more adds the same to all windows, so wider ones than a round
    # are as far apart as the narrower ones; those of a round are not apart.
    for width in range(1, len(frame)):
        counts = window_counts(frame, width)
        if max(counts) - min(counts) > 1:
            return False
    return True


def turn_of(frame):
    """The least turn by which even tells the frame, or None."""
    check_frame(frame)
    beats = len(frame)
    # A turn by all beats changes no frame, so there is no need to go on.
    for turn in range(beats):
        if even(beats, sum(frame), turn) == frame:
            return turn
    return None


def common_divisor(more, less):
    """The greatest common divisor; of a number and 0, the number."""
    while less > 0:
        more, less = less, more % less
    return more


def exact(beats, pulses):
    """The least width over which all windows of the even frames are alike."""
    check_share(beats, pulses)
    return beats // common_divisor(beats, pulses)
