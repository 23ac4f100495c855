"""Cycles of a graph with the greatest mean.

A graph is a list: for each node, by its number, the list of its edges, each (label, gain, number of the node behind
it), none with the label of another one. The mean of a cycle is the sum of the gains in its number of edges, a fraction.
"""

from startgaps.integers import fraction


def explored(firsts, edges_of):
    """Return the graph of some nodes and of all to which edges lead from them.

    The nodes are given by names of any kind; edges_of tells, by the name of a node, its edges (label, gain, name of the
    node behind it).
    """
    names = list(firsts)
    numbers = {name: number for number, name in enumerate(names)}
    graph = []
    while len(graph) < len(names):
        edges = edges_of(names[len(graph)])
        for _, _, behind in edges:
            if behind not in numbers:
                numbers[behind] = len(names)
                names.append(behind)
        graph.append([(label, gain, numbers[behind]) for label, gain, behind in edges])
    return graph


def greatest_mean(graph):
    """Return (mean, prices): the greatest mean of all cycles of a graph, and prices that no edge exceeds.

    An edge exceeds them if bottom times its gain, less top, is more than the price of the node behind it less that
    of the node before it. There must be a cycle, and no mean below 0 is found.
    """
    highest = (0, 1)
    prices, cycle = _settled(graph, highest)
    while cycle is not None:
        # The cycle has a greater mean, so this ends: there are finitely many.
        highest = fraction(*cycle)
        prices, cycle = _settled(graph, highest)
    return highest, prices


def excess(edge, highest, before, behind):
    """Return by how much an edge exceeds the prices of the nodes before it and behind it."""
    _, gain, _ = edge
    top, bottom = highest
    return bottom * gain - top - (behind - before)


def tight_part(graph, highest, prices):
    """Return the graph with those edges only that are as much as the prices let: all cycles in it have this mean."""
    return [
        [edge for edge in edges if excess(edge, highest, prices[node], prices[edge[2]]) == 0]
        for node, edges in enumerate(graph)
    ]


def smallest_cycle(graph):
    """Return the tuple of the labels of the shortest cycle of a graph, of several the smallest; there must be one."""
    sources = _sources(graph)
    found = None
    for start in range(len(graph)):
        most = len(graph) if found is None else len(found)
        labels = _labels_round(graph, start, _steps_to(sources, start, most - 1))
        if labels is not None and (found is None or (len(labels), labels) < (len(found), found)):
            found = labels
    return found


def _settled(graph, highest):
    """Return (prices, None), or (None, the gain and the number of edges of a cycle with a greater mean)."""
    prices = [0] * len(graph)
    came_by = [None] * len(graph)
    while _raise_prices(graph, highest, prices, came_by):
        cycle = _cycle_of(came_by)
        if cycle is not None:
            return None, cycle
    return prices, None


def _raise_prices(graph, highest, prices, came_by):
    """Raise each price that an edge exceeds, and keep by (node, gain) what raised it; tell whether there was one."""
    raised = False
    for node, edges in enumerate(graph):
        for edge in edges:
            _, gain, behind = edge
            more = excess(edge, highest, prices[node], prices[behind])
            if more > 0:
                prices[behind] += more
                came_by[behind] = (node, gain)
                raised = True
    return raised


def _cycle_of(came_by):
    """Return the gain and the number of edges of a cycle from node to node by which it came, None if there is none."""
    seen_from = {}
    for start in range(len(came_by)):
        node = start
        while node not in seen_from and came_by[node] is not None:
            seen_from[node] = start
            node, _ = came_by[node]
        if seen_from.get(node) == start:
            return _measured(came_by, node)
    return None


def _measured(came_by, start):
    node, total = came_by[start]
    length = 1
    while node != start:
        node, gain = came_by[node]
        total += gain
        length += 1
    return total, length


def _sources(graph):
    """Return for each node the list of the nodes that have an edge to it."""
    sources = [[] for _ in graph]
    for node, edges in enumerate(graph):
        for _, _, behind in edges:
            sources[behind].append(node)
    return sources


def _steps_to(sources, goal, most):
    """Return a dict from each node, at most so many steps before a goal, to the number of these steps."""
    steps = {goal: 0}
    layer = [goal]
    for count in range(1, most + 1):
        found = []
        for node in layer:
            for source in sources[node]:
                if source not in steps:
                    steps[source] = count
                    found.append(source)
        layer = list(found)
    return steps


def _labels_round(graph, start, steps):
    """Return the labels of the shortest way from a node back to it, of several the smallest, None if there is none.

    The steps tell how far before it other nodes are; one that is missing there is too far.
    """
    ways = [steps[behind] for _, _, behind in graph[start] if behind in steps]
    if not ways:
        return None
    labels = []
    node = start
    for left in range(min(ways), -1, -1):
        nearer = [(label, behind) for label, _, behind in graph[node] if steps.get(behind) == left]
        label, node = min(nearer)
        labels.append(label)
    return tuple(labels)
