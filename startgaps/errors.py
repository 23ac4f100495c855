"""All exceptions of the package."""


class GapError(ValueError):
    """What every exception of the package is derived from."""


class NoWork(GapError):
    """A work is asked for, and what was given is none."""


class NoLine(GapError):
    """A Line is asked for, and what was given is none."""


class NoKind(GapError):
    """The number of a work of a line is asked for, and what was given is none."""


class OnlyOne(GapError):
    """The only work of a line cannot be taken away."""


class NoPlan(GapError):
    """A plan of a line is asked for, and what was given is none."""


class NoKinds(GapError):
    """A tuple of kinds is asked for, and what was given is none."""


class NoCounts(GapError):
    """A number of pieces for each kind is asked for, and what was given is none."""


class NoState(GapError):
    """A state of a line is asked for, and what was given is none."""


class NoChoice(GapError):
    """A choice that can be made in a state is asked for, and what was given is none."""


class NoTick(GapError):
    """A tick is asked for, and what was given is none."""


class NoLap(GapError):
    """A lap of a line is asked for, and what was given is none."""


class NotFitting(GapError):
    """A lap that fits is asked for, and what was given does not fit."""


class NoWorths(GapError):
    """A worth for each kind is asked for, and what was given is none."""


class NoWaits(GapError):
    """Waits for a work are asked for, and what was given is none."""


class NoDistance(GapError):
    """A distance of starts is asked for, and what was given is none."""


class NotTwo(GapError):
    """A line of two works is asked for, and what was given has another number."""


class NoRate(GapError):
    """A pair of fractions is asked for, and what was given is none."""


class NoBars(GapError):
    """An ascending tuple of bars is asked for, and what was given is none."""


class NoTicks(GapError):
    """A number of ticks is asked for, and what was given is none."""


class NoStation(GapError):
    """A station is asked for, and what was given is none."""


class NoPace(GapError):
    """A pace is asked for, and what was given is none."""


class NoText(GapError):
    """A text of a certain form is asked for, and what was given has another one."""


class NothingDone(GapError):
    """There is nothing that could be taken back."""


class TooMany(GapError):
    """There would be more than are let."""

    def __init__(self, amount, limit):
        self.amount = amount
        self.limit = limit

    def __str__(self):
        return f"{self.amount} are too many: {self.limit} at most"


class TooFar(GapError):
    """The greatest bar is above what can be gone through."""

    def __init__(self, bar, limit):
        self.bar = bar
        self.limit = limit

    def __str__(self):
        return f"a bar of {self.bar} is too far: {self.limit} at most"


class TooLong(GapError):
    """The work has more ticks than can be gone through."""

    def __init__(self, ticks, limit):
        self.ticks = ticks
        self.limit = limit

    def __str__(self):
        return f"a work of {self.ticks} ticks is too long: {self.limit} at most"


class Clash(GapError):
    """A start or a shutting is refused, because a piece would clash."""

    def __init__(self, tick, station):
        self.tick = tick
        self.station = station

    def __str__(self):
        return f"a clash in tick {self.tick} at station {self.station}"


class TooSoon(GapError):
    """A start is refused, because the pace is not kept."""

    def __init__(self, ticks):
        self.ticks = ticks

    def __str__(self):
        return f"too soon by {self.ticks} ticks"
