"""States: what the pieces that were started before now bar, and where each choice leads."""

from startgaps.errors import NoChoice, NoState, NoTick, TooFar
from startgaps.integers import is_int
from startgaps.lines import require_line
from startgaps.plans import require_plan

NOTHING = -1
FARTHEST_OF_ONE = 8
FARTHEST_OF_SEVERAL = 5


def choices(line, state):
    """Return the ascending tuple of the choices that can be made in a state without a clash."""
    _require_state(line, state)
    return _open_choices(state)


def after(line, state, choice):
    """Return the state in the next tick."""
    _require_state(line, state)
    if not is_int(choice) or choice not in _open_choices(state):
        raise NoChoice("one of the choices of the state is needed")
    return _behind(line, state, choice)


def states(line):
    """Return the ascending tuple of all states to which choices lead from the one before all starts."""
    require_near(line)
    return tuple(sorted(list(_moves(line))))


def state_at(line, plan, tick):
    """Return the state in a tick, by all pieces that a plan starts before it."""
    require_plan(line, plan)
    if not is_int(tick) or tick < 0:
        raise NoTick("an integer from 0 on is needed")
    started = [(tick - start, kind) for start, kind in plan if start < tick]
    return tuple([_ascending(_delays(line, started, kind)) for kind in range(len(line))])


def numbered_moves(line):
    """Return for each state, in the order of states, the list of its pairs (choice, number of the state behind it).

    The state before all starts has the number 0, since nothing is smaller than a tuple of empty tuples.
    """
    moves = _moves(line)
    ordered = sorted(list(moves))
    numbers = {state: number for number, state in enumerate(ordered)}
    return [[(choice, numbers[behind]) for choice, behind in moves[state]] for state in ordered]


def require_near(line, of_one=FARTHEST_OF_ONE, of_several=FARTHEST_OF_SEVERAL):
    """Raise NoLine for what is no Line, and TooFar for a line with a reach beyond the limit of one work or of several.

    What is farther has too many states to go through.
    """
    require_line(line)
    limit = of_one if len(line) == 1 else of_several
    if line.reach > limit:
        raise TooFar(line.reach, limit)


def _require_state(line, thing):
    require_near(line)
    if not _has_form(line, thing) or not _is_reached(line, thing):
        raise NoState("one of the states of the line is needed")


def _has_form(line, thing):
    if not isinstance(thing, tuple) or len(thing) != len(line):
        return False
    return all([_is_form_of_delays(line, delays) for delays in thing])


def _is_form_of_delays(line, thing):
    if not isinstance(thing, tuple) or len(thing) > line.reach:
        return False
    return all([is_int(delay) for delay in thing])


def _is_reached(line, wanted):
    """Tell whether choices lead to what has the form of a state.

    A start bars nothing after as many ticks as the reach, so that the last choices tell all of a state. Most of
    them bar what is not wanted: to leave them out is much faster than to go through all states.
    """
    layer = [_empty_state(line)]
    for ticks in range(line.reach - 1, -1, -1):
        found = {}
        for state in layer:
            for choice in _open_choices(state):
                behind = _behind(line, state, choice)
                if _bars_only(behind, wanted, ticks):
                    found[behind] = True
        layer = list(found)
    return wanted in layer


def _bars_only(state, wanted, ticks):
    """Tell whether all that a state still bars so many ticks later is barred by what is wanted then."""
    return all([delay < ticks or delay - ticks in then
                for now, then in zip(state, wanted) for delay in now])


def _empty_state(line):
    return ((),) * len(line)


def _open_choices(state):
    kinds = [kind for kind, delays in enumerate(state) if 0 not in delays]
    return (NOTHING, *kinds)


def _behind(line, state, choice):
    # In the next tick, a piece that is started now was started one tick ago.
    started = [] if choice == NOTHING else [(1, choice)]
    found = []
    for kind, delays in enumerate(state):
        kept = [delay - 1 for delay in delays if delay > 0]
        found.append(_ascending(kept + _delays(line, started, kind)))
    return tuple(found)


def _delays(line, started, kind):
    """Return the delays of a kind that pieces bar; each piece is a pair (how many ticks ago, kind)."""
    return [bar - ago for ago, other in started for bar in line(other, kind) if bar >= ago]


def _ascending(numbers):
    return tuple(sorted(set(numbers)))


def _moves(line):
    """Return a dict from each state to the list of its pairs (choice, state behind it)."""
    moves = {}
    waiting = [_empty_state(line)]
    while waiting:
        state = waiting.pop()
        if state not in moves:
            moves[state] = [(choice, _behind(line, state, choice)) for choice in _open_choices(state)]
            waiting.extend([behind for _, behind in moves[state]])
    return moves
