"""The best laps, and prices that show that no lap is better."""

from startgaps.cycles import excess, greatest_mean, smallest_cycle, tight_part
from startgaps.integers import is_int
from startgaps.laps import fits, is_lap, mean, require_worths, worth_of
from startgaps.states import numbered_moves, require_near


def best(line, worths):
    """Return the greatest mean of all laps that fit, and of the shortest laps that have it the smallest one."""
    graph = _graph(line, worths)
    highest, potentials = greatest_mean(graph)
    return highest, smallest_cycle(tight_part(graph, highest, potentials))


def prices(line, worths):
    """Return prices, one for each state, that show the lap of best."""
    _, potentials = greatest_mean(_graph(line, worths))
    return tuple(potentials)


def shows_best(line, worths, thing):
    """Tell whether any value is a tuple (lap, prices) with a lap that fits and prices that show it."""
    graph = _graph(line, worths)
    if not isinstance(thing, tuple) or len(thing) != 2:
        return False
    lap, asked = thing
    if not is_lap(line, lap) or not _are_prices(graph, asked) or not fits(line, lap):
        return False
    return _is_shown(graph, mean(line, lap, worths), asked)


def weighted(moves, worths):
    """Return the graph of such moves, with the choices as labels and their worths as gains."""
    return [[(choice, worth_of(worths, choice), behind) for choice, behind in open_moves] for open_moves in moves]


def _graph(line, worths):
    require_worths(line, worths)
    require_near(line)
    return weighted(numbered_moves(line), worths)


def _are_prices(graph, thing):
    return isinstance(thing, tuple) and len(thing) == len(graph) and all([is_int(price) for price in thing])


def _is_shown(graph, reached, asked):
    return all([
        excess(edge, reached, asked[node], asked[edge[2]]) <= 0
        for node, edges in enumerate(graph) for edge in edges
    ])
