"""Runs: stretches of beats that are on, and frames of told runs."""

from pulseshare.errors import BadRuns, NoRoom
from pulseshare.frames import check_frame, check_share


def beat_pairs(frame):
    """Each beat behind the one ahead of it, going round."""
    return [(frame[place - 1], frame[place]) for place in range(len(frame))]


def runs(frame):
    """How many runs a frame has."""
    check_frame(frame)
    # A frame that is all on is one run, though none of its beats begins it.
    if sum(frame) == len(frame):
        return 1
    return beat_pairs(frame).count((0, 1))


def changes(frame):
    """How often a beat is unlike the one ahead."""
    check_frame(frame)
    pairs = beat_pairs(frame)
    return pairs.count((0, 1)) + pairs.count((1, 0))


def has_room(beats, pulses, many):
    """Whether a share has a frame of so many runs."""
    if many == 0:
        return pulses == 0
    if many == 1:
        return pulses >= 1
    return many <= pulses and many <= beats - pulses


def parted(total, parts):
    """The lengths of so many parts, the longer ones first."""
    longer = total % parts
    return [total // parts + (1 if at < longer else 0) for at in range(parts)]


def with_runs(beats, pulses, many):
    """A frame of so many runs, alike in length, as are its gaps."""
    check_share(beats, pulses)
    if many < 0:
        raise BadRuns("a number of runs is 0 or more")
    if not has_room(beats, pulses, many):
        raise NoRoom("the share has no frame of so many runs")
    if many == 0:
        return [0] * beats
    frame = []
    for run, gap in zip(parted(pulses, many), parted(beats - pulses, many)):
        frame.extend([1] * run + [0] * gap)
    return frame
