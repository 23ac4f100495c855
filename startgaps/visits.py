"""Visits: which pieces are at which station in which tick, and which stations are shut.

Starts are pairs (tick, kind) that ascend; shuttings are triples (station, first tick, first tick behind them).
"""

from startgaps.works import NOWHERE

NO_PIECE = -1


def piece_visits(work, start):
    """Return the ascending list of the pairs (tick, station) of a piece."""
    return [(start + passed, station) for passed, station in enumerate(work) if station != NOWHERE]


def all_visits(works, starts):
    """Return the ascending list of the triples (tick, station, piece) of all pieces."""
    return sorted([
        (tick, station, piece)
        for piece, (start, kind) in enumerate(starts) for tick, station in piece_visits(works[kind], start)
    ])


def shut_places(shuttings):
    """Return the ascending list of the pairs (tick, station) that are shut, each once."""
    return sorted(set([(tick, station) for station, first, behind in shuttings for tick in range(first, behind)]))


def taken_places(works, starts, shuttings):
    """Return a dict with each (tick, station) at which a piece is, or which is shut."""
    places = {place: True for place in shut_places(shuttings)}
    for tick, station, _ in all_visits(works, starts):
        places[tick, station] = True
    return places


def first_taken(work, start, taken):
    """Return the first (tick, station) of a piece that is taken, None if none is."""
    return min([place for place in piece_visits(work, start) if place in taken], default=None)


def pieces_at(works, starts, tick, station):
    """Return the ascending tuple of the pieces that are at a station in a tick."""
    return tuple([piece for piece, (start, kind) in enumerate(starts)
                  if 0 <= tick - start < len(works[kind]) and works[kind][tick - start] == station])


def under_way(works, starts, tick):
    """Return the list of the pieces that were started before a tick and whose last tick it is, or a later one."""
    return [piece for piece, (start, kind) in enumerate(starts) if start < tick < start + len(works[kind])]


def all_clashes(works, starts, shuttings):
    """Return the ascending tuple of the clashes of two pieces, and of pieces at shut stations."""
    visits = all_visits(works, starts)
    shut = {place: True for place in shut_places(shuttings)}
    alone = [(*visit, NO_PIECE) for visit in visits if visit[:2] in shut]
    return tuple(sorted(alone + _meetings(visits)))


def _meetings(visits):
    """Return the list of (tick, station, first, second) for each two pieces; those at one place stand side by side."""
    found = []
    for at, visit in enumerate(visits):
        later = at + 1
        while later < len(visits) and visits[later][:2] == visit[:2]:
            found.append((*visit, visits[later][2]))
            later += 1
    return found
