"""Plans: in which ticks pieces are started, and which of them clash."""

from startgaps.errors import NoPlan
from startgaps.integers import is_int
from startgaps.lines import is_kind, require_line
from startgaps.works import NOWHERE

MOST_STARTS = 60


def is_plan(line, thing):
    """Tell whether any value is a plan of a line."""
    require_line(line)
    if not isinstance(thing, tuple) or len(thing) > MOST_STARTS:
        return False
    least = 0
    for pair in thing:
        if not _is_start(line, pair, least):
            return False
        least = pair[0] + 1
    return True


def clash(line, plan):
    """Return the first clash of a plan as (tick, station, first, second), None if there is none."""
    require_plan(line, plan)
    visits = _visits(line, plan)
    # The pieces of a visit ascend, so the first two are the smallest pair.
    clashes = [(*place, pieces[0], pieces[1]) for place, pieces in visits.items() if len(pieces) > 1]
    return min(clashes, default=None)


def require_plan(line, thing):
    """Raise NoLine for what is no Line, and NoPlan for any value that is no plan of the line."""
    if not is_plan(line, thing):
        raise NoPlan("an ascending tuple of up to 60 pairs of a tick and a kind is needed")


def _is_start(line, thing, least):
    if not isinstance(thing, tuple) or len(thing) != 2:
        return False
    return is_int(thing[0]) and thing[0] >= least and is_kind(line, thing[1])


def _visits(line, plan):
    """Return a dict from each (tick, station) to the ascending list of the pieces there."""
    visits = {}
    for piece, (start, kind) in enumerate(plan):
        for passed, station in enumerate(line[kind]):
            if station != NOWHERE:
                visits.setdefault((start + passed, station), []).append(piece)
    return visits
