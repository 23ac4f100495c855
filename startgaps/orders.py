"""Orders: plans that start given pieces as soon as can be."""

from startgaps.errors import NoCounts, NoKinds
from startgaps.integers import is_between
from startgaps.lines import is_kind, require_line
from startgaps.states import NOTHING, numbered_moves, require_near

MOST_KINDS = 12
MOST_OF_A_KIND = 4
MOST_PIECES = 8


def early(line, kinds):
    """Return the plan that starts pieces in this order, each one in the first tick in which it clashes with none."""
    require_kinds(line, kinds, MOST_KINDS)
    plan = []
    for kind in kinds:
        plan.append((_first_tick(line, plan, kind), kind))
    return tuple(plan)


def soonest(line, kinds):
    """Return the plan in this order with the earliest last start, of several the smallest."""
    require_kinds(line, kinds, MOST_KINDS)
    require_near(line)
    return _soonest_plan(line, kinds, _next_in_order)


def soonest_of(line, counts):
    """Return the plan of so many pieces of each kind with the earliest last start, of several the smallest."""
    _require_counts(line, counts)
    require_near(line)
    return _soonest_plan(line, counts, _next_of_any)


def require_kinds(line, thing, most):
    """Raise NoLine for what is no Line, and NoKinds for any value that is no tuple of one to so many of its kinds."""
    require_line(line)
    if not isinstance(thing, tuple) or not 1 <= len(thing) <= most:
        raise NoKinds(f"a tuple of 1 to {most} kinds is needed")
    if not all([is_kind(line, kind) for kind in thing]):
        raise NoKinds("each item must be a kind of the line")


def _require_counts(line, thing):
    require_line(line)
    if not isinstance(thing, tuple) or len(thing) != len(line):
        raise NoCounts("a tuple with a number for each kind is needed")
    if not all([is_between(count, 0, MOST_OF_A_KIND) for count in thing]):
        raise NoCounts("each number must be an integer from 0 to 4")
    if not 1 <= sum(thing) <= MOST_PIECES:
        raise NoCounts("there must be 1 to 8 pieces in all")


def _first_tick(line, plan, kind):
    tick = plan[-1][0] + 1 if plan else 0
    while any([tick - start in line(other, kind) for start, other in plan]):
        tick += 1
    return tick


def _next_in_order(kinds):
    """Return a dict from the kind that may come next to the kinds that are left then."""
    return {kinds[0]: kinds[1:]} if kinds else {}


def _next_of_any(counts):
    """Return a dict from each kind that may come next to the counts that are left then."""
    return {
        kind: counts[:kind] + (count - 1,) + counts[kind + 1:]
        for kind, count in enumerate(counts) if count > 0
    }


def _soonest_plan(line, wanted, next_of):
    """Return the smallest of the plans with the earliest last start; next_of tells what may come next.

    A place is a pair of a state and what is left to be started. What follows depends on the place only, so that the
    smallest plan that leads to each place in a tick is enough.
    """
    moves = numbered_moves(line)
    layer = {(0, wanted): ()}
    first_ticks = {(0, wanted): 0}
    tick = 0
    ended = []
    while not ended:
        layer = _next_layer(moves, layer, first_ticks, tick, next_of)
        ended = [plan for (_, left), plan in layer.items() if not next_of(left)]
        tick += 1
    return min(ended)


def _next_layer(moves, layer, first_ticks, tick, next_of):
    """Return a dict from each place that can be come to by what is done in this tick to the smallest plan for it."""
    found = {}
    for (state, left), plan in layer.items():
        for place, longer in _steps(moves[state], left, plan, tick, next_of):
            # Whatever follows a place would have been done sooner from the first time on that it was come to.
            is_first = first_ticks.setdefault(place, tick + 1) == tick + 1
            if is_first and (place not in found or longer < found[place]):
                found[place] = longer
    return found


def _steps(moves, left, plan, tick, next_of):
    """Return all that can be done in a tick, as pairs (place behind it, plan)."""
    coming = next_of(left)
    found = []
    for choice, behind in moves:
        if choice == NOTHING:
            found.append(((behind, left), plan))
        elif choice in coming:
            found.append(((behind, coming[choice]), (*plan, (tick, choice))))
    return found
