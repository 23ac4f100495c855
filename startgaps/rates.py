"""Lines of two works: how often pieces of both kinds can be started at once."""

from startgaps.bests import weighted
from startgaps.cycles import greatest_mean, smallest_cycle, tight_part
from startgaps.errors import NoRate, NotTwo
from startgaps.integers import fraction, is_fraction
from startgaps.laps import fits, is_lap
from startgaps.lines import require_line
from startgaps.states import numbered_moves, require_near

BY_X = (1, 0)
BY_Y = (0, 1)


def rates(line):
    """Return the corners of what can be had: pairs (rate, smallest of the shortest laps with it), by ascending x."""
    _require_two(line)
    moves = numbered_moves(line)
    first = _corner(moves, BY_Y, BY_X)
    last = _corner(moves, BY_X, BY_Y)
    if first[0] == last[0]:
        return (first,)
    return tuple(_from_to(moves, first, last) + [last])


def is_under(line, pair):
    """Tell whether a pair of fractions can be had in the long run, or come near."""
    _require_two(line)
    if not _is_rate(pair):
        raise NoRate("a pair of fractions from 0 on is needed")
    corners = [rate for rate, _ in rates(line)]
    between = [(_across(one, other), other) for one, other in zip(corners, corners[1:])]
    sides = [(BY_Y, corners[0]), *between, (BY_X, corners[-1])]
    return not any([_is_more(weights, pair, rate) for weights, rate in sides])


def shows_rates(line, thing):
    """Tell whether any value is the tuple of rates, with any laps that fit and have them."""
    _require_two(line)
    corners = [rate for rate, _ in rates(line)]
    if not isinstance(thing, tuple) or len(thing) != len(corners):
        return False
    return all([_shows_rate(line, part, rate) for part, rate in zip(thing, corners)])


def _require_two(line):
    require_line(line)
    if len(line) != 2:
        raise NotTwo("a line of two works is needed")
    require_near(line)


def _is_rate(thing):
    if not isinstance(thing, tuple) or len(thing) != 2:
        return False
    return all([is_fraction(part) and part[0] >= 0 for part in thing])


def _shows_rate(line, thing, rate):
    if not isinstance(thing, tuple) or len(thing) != 2:
        return False
    told, lap = thing
    if not _is_rate(told) or told != rate:
        return False
    return is_lap(line, lap) and fits(line, lap) and _rate_of(lap) == rate


def _rate_of(lap):
    return fraction(lap.count(0), len(lap)), fraction(lap.count(1), len(lap))


def _corner(moves, worths, others):
    """Return (rate, lap) with the greatest mean by some worths, and with the greatest one by others of these."""
    best_moves = _best_moves(_best_moves(moves, worths), others)
    lap = smallest_cycle(weighted(best_moves, others))
    return _rate_of(lap), lap


def _best_moves(moves, worths):
    """Return those moves only of which laps with the greatest mean are made."""
    graph = weighted(moves, worths)
    highest, prices = greatest_mean(graph)
    return [[(choice, behind) for choice, _, behind in edges] for edges in tight_part(graph, highest, prices)]


def _from_to(moves, one, other):
    """Return the list of the corners from one to another one, without this."""
    between = _corner(moves, _across(one[0], other[0]), BY_Y)
    # Of what has as much as these two, the first one has the greatest y.
    if between[0] == one[0]:
        return [one]
    return _from_to(moves, one, between) + _from_to(moves, between, other)


def _across(one, other):
    """Return the worths by which two rates, the second with more x and less y, have the same mean."""
    (left, high), (right, low) = one, other
    return fraction(_less(high, low) * left[1] * right[1], _less(right, left) * high[1] * low[1])


def _less(one, other):
    """Return one fraction less another one, times the bottoms of both."""
    return one[0] * other[1] - other[0] * one[1]


def _is_more(worths, pair, rate):
    """Tell whether a pair of fractions has a greater mean than a rate has."""
    return _less(_mean(worths, pair), _mean(worths, rate)) > 0


def _mean(worths, pair):
    (top, bottom), (other_top, other_bottom) = pair
    return worths[0] * top * other_bottom + worths[1] * other_top * bottom, bottom * other_bottom
