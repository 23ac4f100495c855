"""Kinds in turn: pieces that are started in a given order, again and again."""

from startgaps.cycles import explored, greatest_mean, smallest_cycle, tight_part
from startgaps.integers import fraction
from startgaps.orders import require_kinds
from startgaps.states import NOTHING, numbered_moves, require_near

MOST_IN_TURN = 6


def in_turn(line, kinds):
    """Return (mean, lap): the least mean number of ticks for a pass, and the smallest of the shortest laps with it."""
    require_kinds(line, kinds, MOST_IN_TURN)
    require_near(line)
    graph = _graph(line, kinds)
    highest, prices = greatest_mean(graph)
    starts, ticks = highest
    return fraction(ticks * len(kinds), starts), smallest_cycle(tight_part(graph, highest, prices))


def _graph(line, kinds):
    """Return the graph of the pairs (number of a state, place in the order), in which each start gains 1.

    A way round in it has come to the same place of the order again, so it has whole passes only.
    """
    moves = numbered_moves(line)

    def edges_of(node):
        state, place = node
        edges = []
        for choice, behind in moves[state]:
            if choice == NOTHING:
                edges.append((choice, 0, (behind, place)))
            elif choice == kinds[place]:
                edges.append((choice, 1, (behind, (place + 1) % len(kinds))))
        return edges

    return explored([(0, 0)], edges_of)
