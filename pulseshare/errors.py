"""The refusals of the program."""


class PulseError(ValueError):
    """Any refusal."""


class BadFrame(PulseError):
    """A list that is no frame."""


class BadShare(PulseError):
    """Beats, pulses or a whole that are no share, or a share beyond its whole."""


class BadWidth(PulseError):
    """A width that no window has."""


class BadBegins(PulseError):
    """Begins that do not fit their shares and beats."""


class BadRuns(PulseError):
    """A number of runs below 0."""


class NoRoom(PulseError):
    """Shares or runs that there is no room for."""


class BadText(PulseError):
    """A text that is no frame, with the place of its first other sign."""

    def __init__(self, place):
        super().__init__("the text is no frame")
        self.place = place
