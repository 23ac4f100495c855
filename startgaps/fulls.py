"""Full laps: those to which no start can be added."""

from startgaps.cycles import explored, greatest_mean, smallest_cycle, tight_part
from startgaps.errors import NotFitting
from startgaps.integers import fraction
from startgaps.laps import fits
from startgaps.states import NOTHING, numbered_moves, require_near

FARTHEST_OF_ONE = 5
FARTHEST_OF_SEVERAL = 3


def open_ticks(line, lap):
    """Return the pairs (tick, kind) that could be added to a lap that fits, each by itself and once."""
    if not fits(line, lap):
        raise NotFitting("a lap that fits is needed")
    return tuple([
        (tick, kind) for tick, choice in enumerate(lap) if choice == NOTHING
        for kind in range(len(line)) if _is_open(line, lap, tick, kind)
    ])


def is_full(line, lap):
    """Tell whether nothing can be added to a lap that fits."""
    return not open_ticks(line, lap)


def sparsest(line):
    """Return (mean, lap): the least starts per tick of all full laps, and the smallest of the shortest ones with it."""
    require_near(line, FARTHEST_OF_ONE, FARTHEST_OF_SEVERAL)
    graph = _graph(line)
    highest, prices = greatest_mean(graph)
    without_start, ticks = highest
    return fraction(ticks - without_start, ticks), smallest_cycle(tight_part(graph, highest, prices))


def _is_open(line, lap, tick, kind):
    """Tell whether a piece in a tick without a start clashes with none, before it or behind it."""
    return not any([
        _is_started(lap, other, [tick + bar for bar in line(kind, other)])
        or _is_started(lap, other, [tick - bar for bar in line(other, kind)])
        for other in range(len(line))
    ])


def _is_started(lap, kind, ticks):
    """Tell whether a kind is started in one of some ticks of a lap that is repeated to both sides."""
    return any([lap[tick % len(lap)] == kind for tick in ticks])


def _graph(line):
    """Return the graph of the pairs (number of a state, what must be closed), in which a tick without a start gains 1.

    In a tick without a start, the kinds that no piece before it bars must be closed by pieces behind it. They are
    kept as pairs (kind, how many ticks ago), until they are closed; a way that does not do so in time ends.
    """
    moves = numbered_moves(line)

    def edges_of(node):
        state, unclosed = node
        edges = []
        for choice, behind in moves[state]:
            left = _still_unclosed(line, choice, unclosed)
            if choice == NOTHING:
                left = left + [(kind, 0) for kind, _ in moves[state] if kind != NOTHING]
            if all([ago < _farthest(line, kind) for kind, ago in left]):
                place = (behind, tuple(sorted([(kind, ago + 1) for kind, ago in left])))
                edges.append((choice, 1 if choice == NOTHING else 0, place))
        return edges

    return explored([(number, ()) for number in range(len(moves))], edges_of)


def _still_unclosed(line, choice, unclosed):
    """Return those pairs (kind, how many ticks ago) that a choice made now does not close."""
    if choice == NOTHING:
        return list(unclosed)
    return [(kind, ago) for kind, ago in unclosed if ago not in line(kind, choice)]


def _farthest(line, kind):
    """Return how far behind a piece of a kind another one can be that clashes with it, 0 if none can."""
    return max([bar for other in range(len(line)) for bar in line(kind, other)], default=0)
