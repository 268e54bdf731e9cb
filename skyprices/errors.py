"""The refusals of the program: one class for each kind, all under SkyError."""


class SkyError(ValueError):
    """Any refusal."""


class NoDay(SkyError):
    """What was handed in as a day is none."""


class NoPlan(SkyError):
    """What was handed in as a plan is none of the day."""


class NoNumbers(SkyError):
    """What was handed in is no rising list of blocks of the day."""


class NoRests(SkyError):
    """What was handed in are no rests of the day."""


class NoLost(SkyError):
    """What was handed in is no number of a lost block."""


class NoBlock(SkyError):
    """What was handed in is no block, or no block's number."""


class NoWorth(SkyError):
    """What was handed in is no worth of a block."""


class NoHour(SkyError):
    """What was handed in are no dish and hour of the day."""


class TooMany(SkyError):
    """One block more would be more than there may be."""


class DayOver(SkyError):
    """The last hour of the day is behind."""


class NoName(SkyError):
    """No day stands by this name."""


class NoPlace(SkyError):
    """What was handed in is no place of the day."""


class NoRow(SkyError):
    """What was handed in is no row of the desk."""


class NoText(SkyError):
    """What was handed in writes no day; at tells the row that is wrong."""

    def __init__(self, at=None):
        self.at = at
