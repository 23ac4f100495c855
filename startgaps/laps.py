"""Laps: starts that are repeated for ever."""

from startgaps.errors import NoLap, NoWorths
from startgaps.integers import fraction, is_between
from startgaps.lines import require_line
from startgaps.states import NOTHING

MOST_WORTH = 20


def fits(line, lap):
    """Tell whether no two pieces of a lap that is repeated for ever clash."""
    require_lap(line, lap)
    return not any([_clashes(line, lap, tick) for tick in range(len(lap))])


def mean(line, lap, worths):
    """Return the sum of the worths of all starts of a lap in its number of ticks, as a fraction."""
    require_lap(line, lap)
    require_worths(line, worths)
    return fraction(sum([worth_of(worths, choice) for choice in lap]), len(lap))


def is_lap(line, thing):
    """Tell whether any value is a lap of a line."""
    if not isinstance(thing, tuple) or len(thing) == 0:
        return False
    return all([is_between(item, NOTHING, len(line) - 1) for item in thing])


def worth_of(worths, choice):
    """Return what a choice is worth; to start nothing is worth 0."""
    return 0 if choice == NOTHING else worths[choice]


def require_lap(line, thing):
    """Raise NoLine for what is no Line, and NoLap for any value that is no lap of the line."""
    require_line(line)
    if not is_lap(line, thing):
        raise NoLap("a tuple of one or more kinds and -1 is needed")


def require_worths(line, thing):
    """Raise NoLine for what is no Line, and NoWorths for any value that is no worths for the line."""
    require_line(line)
    if not _is_worths(line, thing):
        raise NoWorths("an integer from 0 to 20 for each kind is needed, not all of them 0")


def _is_worths(line, thing):
    if not isinstance(thing, tuple) or len(thing) != len(line):
        return False
    return all([is_between(worth, 0, MOST_WORTH) for worth in thing]) and sum(thing) > 0


def _clashes(line, lap, tick):
    """Tell whether what is started in a tick of a lap clashes with a piece behind it."""
    kind = lap[tick]
    if kind == NOTHING:
        return False
    # A bar may go round the lap, once or several times, and come to the same start again.
    return any([lap[(tick + bar) % len(lap)] == other for other in range(len(line)) for bar in line(kind, other)])
