"""Works: which stations a piece comes to, tick by tick."""

from startgaps.errors import NoWork
from startgaps.integers import is_between

NOWHERE = -1
STATIONS = 10
MOST_ITEMS = 60


def is_work(thing):
    """Tell whether any value is a work."""
    if not isinstance(thing, tuple) or not 1 <= len(thing) <= MOST_ITEMS:
        return False
    if not all([is_between(item, NOWHERE, STATIONS - 1) for item in thing]):
        return False
    return thing[0] != NOWHERE and thing[-1] != NOWHERE


def bars(one, other):
    """Return the distances at which a piece of other clashes with one of one before it."""
    require_work(one)
    require_work(other)
    # From the length of one on, its piece is gone before the other one comes.
    return tuple([distance for distance in range(1, len(one)) if _clashes_behind(one, other, distance)])


def most_visits(work):
    """Return the greatest number of ticks that a piece is at one station."""
    require_work(work)
    return max([work.count(station) for station in range(STATIONS)])


def require_work(thing):
    """Raise NoWork for any value that is no work."""
    if not is_work(thing):
        raise NoWork("a tuple of 1 to 60 stations and -1 is needed, with stations at both ends")


def _clashes_behind(one, other, distance):
    return any([here == there and here != NOWHERE for here, there in zip(one[distance:], other)])
