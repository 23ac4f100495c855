"""One work alone: at which distances its pieces can be started, for ever."""

from startgaps.bests import best
from startgaps.integers import fraction
from startgaps.lines import Line
from startgaps.states import require_near
from startgaps.works import NOWHERE, most_visits, require_work


def gap(work):
    """Return the least mean distance of starts of a work alone, as a fraction."""
    (top, bottom), _ = best(Line(work), (1,))
    return bottom, top


def constants(work):
    """Return the constant distances of a work from 1 to its length."""
    require_work(work)
    return tuple([distance for distance in range(1, len(work) + 1) if is_constant(work, distance)])


def greedy(work):
    """Return (before, again): the distances, if each piece is started as soon as it clashes with none before it.

    Those of before come once; those of again come then, again and again.
    """
    line = Line(work)
    require_near(line)
    distances, first = _until_repeated(line(0, 0))
    return _with_fewest_before(tuple(distances[:first]), tuple(distances[first:]))


def bounds(work):
    """Return four fractions: most visits, gap, mean of the greedy distances, and the number of bars plus 1."""
    least = gap(work)
    _, again = greedy(work)
    many = len(Line(work)(0, 0))
    return (most_visits(work), 1), least, fraction(sum(again), len(again)), (many + 1, 1)


def is_greedy_best(work):
    """Tell whether the greedy distances have the least mean."""
    told = bounds(work)
    return told[1] == told[2]


def is_constant(items, distance):
    """Tell whether a distance is constant for items as those of a work, however many there are."""
    # A bar is a multiple of the distance just where a station is come to twice in ticks as far apart as that.
    places = [(station, tick % distance) for tick, station in enumerate(items) if station != NOWHERE]
    return len(set(places)) == len(places)


def _until_repeated(barred):
    """Return the distances until they repeat, and the number of the one at which the repeated ones begin.

    What follows a start depends on the starts before it that can still bar another one.
    """
    farthest = max(barred, default=0)
    distances = []
    seen = {}
    agos = (0,)
    while agos not in seen:
        seen[agos] = len(distances)
        distance = _next_distance(barred, agos)
        distances.append(distance)
        kept = [ago + distance for ago in agos if ago + distance < farthest]
        agos = (*kept, 0)
    return distances, seen[agos]


def _next_distance(barred, agos):
    """Return the distance of the next start from the last one; each ago is how far before it a start was."""
    distance = 1
    while any([ago + distance in barred for ago in agos]):
        distance += 1
    return distance


def _with_fewest_before(before, again):
    """Return the same distances with as few before as possible.

    There are no fewer again: those that come for ever tell which starts still bar something, so they come again no
    sooner than these do.
    """
    while before and before[-1] == again[-1]:
        again = (again[-1],) + again[:-1]
        before = before[:-1]
    return before, again
