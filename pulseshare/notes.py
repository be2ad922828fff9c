"""Notes: frames written as texts, and read from them."""

from pulseshare.errors import BadText
from pulseshare.frames import MOST_BEATS, check_frame

ON = "#"
OFF = "."


def written(frame):
    """The text of a frame."""
    check_frame(frame)
    return "".join([ON if beat == 1 else OFF for beat in frame])


def read_frame(text):
    """The frame that a text was written from."""
    if text == "":
        raise BadText(0)
    frame = []
    for place, sign in enumerate(text):
        # The place behind the last beat of the longest frame is refused
        # whatever stands there, so no sign from there on is looked at.
        if place == MOST_BEATS or sign not in (ON, OFF):
            raise BadText(place)
        frame.append(1 if sign == ON else 0)
    return frame
