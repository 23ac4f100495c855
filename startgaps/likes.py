"""Works with given bars, and lines that have the same bars."""

from startgaps.errors import NoBars
from startgaps.integers import is_between
from startgaps.lines import require_line
from startgaps.works import NOWHERE

MOST_BARS = 8
FARTHEST_BAR = 20


def work_with(distances):
    """Return a work whose bars with itself are just these distances."""
    if not _is_bars(distances):
        raise NoBars("an ascending tuple of up to eight integers from 1 to 20 is needed")
    stations = {}
    for station, distance in enumerate(distances):
        # Each distance has a station of its own, which a piece comes to twice and no more. The distances ascend, and
        # so do the second visits: each comes behind all others.
        first = _first_free(stations)
        stations[first] = station
        stations[first + distance] = station
    # Without distances, a single visit will do.
    stations.setdefault(0, 0)
    return tuple([stations.get(tick, NOWHERE) for tick in range(max(list(stations)) + 1)])


def alike(one, other):
    """Return the smallest order of the kinds of other in which they have the bars of those of one, None if none has."""
    require_line(one)
    require_line(other)
    if len(one) != len(other):
        return None
    return min([order for order in _orders(len(one)) if _has_bars_of(one, other, order)], default=None)


def _is_bars(thing):
    if not isinstance(thing, tuple) or len(thing) > MOST_BARS:
        return False
    if not all([is_between(distance, 1, FARTHEST_BAR) for distance in thing]):
        return False
    return all([near < far for near, far in zip(thing, thing[1:])])


def _first_free(stations):
    """Return the first tick that has no station."""
    tick = 0
    while tick in stations:
        tick += 1
    return tick


def _orders(amount):
    """Return the list of all orders of so many kinds."""
    orders = [()]
    for _ in range(amount):
        orders = [(*order, kind) for order in orders for kind in range(amount) if kind not in order]
    return orders


def _has_bars_of(one, other, order):
    kinds = range(len(order))
    return all([
        one(first, second) == other(order[first], order[second])
        for first in kinds for second in kinds
    ])
