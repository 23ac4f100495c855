"""Waits that are put into a work, so that its pieces can be started at a given distance."""

from heapq import heappop, heappush

from startgaps.errors import NoDistance, NoWaits, TooLong
from startgaps.integers import is_between
from startgaps.singles import constants, is_constant
from startgaps.works import NOWHERE, most_visits, require_work

MOST_WAIT = 11
MOST_TICKS = 12
MOST_DISTANCE = 12


def stretched(work, waits):
    """Return the work with so many items -1 put in behind each item but the last one."""
    require_work(work)
    if not _is_waits(work, waits):
        raise NoWaits("an integer from 0 to 11 for each item but the last one is needed")
    return _put_in(work, waits)


def stretch(work, distance):
    """Return the waits with the least sum with which a distance is constant, of several the smallest; None if none."""
    _require_stretch(work, distance)
    return _least_waits(work, distance)


def shows_stretch(work, distance, thing):
    """Tell whether any value is waits for the work with which the distance is constant."""
    _require_stretch(work, distance)
    return _is_waits(work, thing) and is_constant(_put_in(work, thing), distance)


def trade(work):
    """Return the pairs (distance, least sum of waits) from the most visits of a work to its least constant distance."""
    _require_short(work)
    distances = range(most_visits(work), constants(work)[0] + 1)
    return tuple([(distance, sum(_least_waits(work, distance))) for distance in distances])


def _require_short(work):
    require_work(work)
    if len(work) > MOST_TICKS:
        raise TooLong(len(work), MOST_TICKS)


def _require_stretch(work, distance):
    _require_short(work)
    if not is_between(distance, 1, MOST_DISTANCE):
        raise NoDistance("an integer from 1 to 12 is needed")


def _is_waits(work, thing):
    if not isinstance(thing, tuple) or len(thing) != len(work) - 1:
        return False
    return all([is_between(wait, 0, MOST_WAIT) for wait in thing])


def _put_in(work, waits):
    items = [work[0]]
    for wait, station in zip(waits, work[1:]):
        items.extend([NOWHERE] * wait)
        items.append(station)
    return tuple(items)


def _least_waits(work, distance):
    """Return the waits of stretch.

    Waits for the first items come from the queue by their sum, then by size; so the first ones for all items are those
    that are looked for. What can follow depends on the places (station, how many ticks ago, up to whole distances) that
    are taken, of stations that are come to again.
    """
    queue = [(0, (), ((work[0], 0),))]
    seen = {}
    while queue:
        total, waits, taken = heappop(queue)
        if len(waits) == len(work) - 1:
            return waits
        if (len(waits), taken) not in seen:
            seen[len(waits), taken] = True
            for wait, longer in _next_taken(work, distance, len(waits) + 1, taken):
                heappush(queue, (total + wait, (*waits, wait), longer))
    return None


def _next_taken(work, distance, at, taken):
    """Return the pairs (wait before an item, places that are taken once it is come to) that let none be taken twice."""
    station = work[at]
    found = []
    # A wait as long as the distance changes no place.
    for wait in range(distance):
        moved = [(other, (ago + wait + 1) % distance) for other, ago in taken]
        if (station, 0) not in moved:
            found.append((wait, _needed_places(work[at + 1:], [*moved, (station, 0)])))
    return found


def _needed_places(coming, places):
    """Return the places of stations that are still to come, in one order whatever way led to them."""
    return tuple(sorted([(station, ago) for station, ago in places if station in coming and station != NOWHERE]))
