"""The refusals of Liveswap."""


class SwapError(ValueError):
    """Any refusal."""


class BadProgram(SwapError):
    """What was handed in is no program."""


class BadState(SwapError):
    """What was handed in is no state, or no begin, of the program."""


class BadPlaces(SwapError):
    """What was handed in is no list of places from the one program to the other."""


class BadCount(SwapError):
    """What was handed in is no whole number from nought on."""


class Busy(SwapError):
    """A change is asked for while another one is waited for."""


class Over(SwapError):
    """A change is asked for where the run is over."""


class Unsafe(SwapError):
    """A change is asked for that would be stuck or missed; shown is what it meets."""

    def __init__(self, shown):
        self.shown = shown
