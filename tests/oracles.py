"""What the document says, computed once more in slow ways that the program does not take.

Nothing here asks the program for bars, states or laps: pieces are followed to the stations that they take.
"""

import fractions
import itertools


def taken(work, start):
    """Return all (tick, station) that a piece takes."""
    return {(start + passed, station) for passed, station in enumerate(work) if station != -1}


def pieces_clash(line, starts):
    """Tell whether any two of these pieces, pairs (tick, kind), are at one station in the same tick."""
    there = set()
    for tick, kind in starts:
        places = taken(line.works[kind], tick)
        if places & there:
            return True
        there |= places
    return False


def state_by_pieces(line, starts, now):
    """Try each delay of each kind, and look where the pieces started before now are."""
    there = set()
    for tick, kind in starts:
        if tick < now:
            there |= taken(line.works[kind], tick)
    return tuple(
        tuple(delay for delay in range(70) if taken(work, now + delay) & there)
        for work in line.works
    )


def states_by_choices(line):
    """Follow all choices by the stations that pieces take, keeping the starts of one history for each state."""
    waiting = [((), 0)]
    found = {}
    while waiting:
        starts, now = waiting.pop()
        state = state_by_pieces(line, starts, now)
        if state in found:
            continue
        found[state] = (starts, now)
        waiting.append((starts, now + 1))
        for kind in range(len(line.works)):
            longer = starts + ((now, kind),)
            # What was started more than a work's length ago is gone.
            recent = tuple(start for start in longer if now - start[0] <= 60)
            if not pieces_clash(line, recent):
                waiting.append((recent, now + 1))
    return found


def lap_fits(line, lap):
    """Bend all ticks to one lap: no station may be taken twice in one of its ticks."""
    there = set()
    for start, kind in enumerate(lap):
        if kind != -1:
            for passed, station in enumerate(line.works[kind]):
                place = ((start + passed) % len(lap), station)
                if station != -1:
                    if place in there:
                        return False
                    there.add(place)
    return True


def lap_mean(lap, worths):
    """Return the mean of a lap as a fraction of the library."""
    return fractions.Fraction(sum(worths[kind] for kind in lap if kind != -1), len(lap))


def best_short_lap(line, worths, longest):
    """Try all laps of up to so many ticks: return (mean, lap), the shortest and then smallest lap of the best mean."""
    best = None
    for length in range(1, longest + 1):
        for lap in itertools.product(range(-1, len(line.works)), repeat=length):
            if (best is None or lap_mean(lap, worths) > best[0]) and lap_fits(line, lap):
                best = (lap_mean(lap, worths), lap)
    return (best[0].numerator, best[0].denominator), best[1]


def edges_by_pieces(line):
    """Return all (number of a state, choice, number of the state behind it), with states in ascending order."""
    histories = states_by_choices(line)
    numbers = {state: number for number, state in enumerate(sorted(histories))}
    edges = []
    for state, (starts, now) in histories.items():
        for choice in range(-1, len(line.works)):
            longer = starts + (((now, choice),) if choice != -1 else ())
            if not pieces_clash(line, longer):
                edges.append((numbers[state], choice, numbers[state_by_pieces(line, longer, now + 1)]))
    return edges


def is_shown(line, worths, lap, prices, edges=None):
    """Tell whether prices, as many as there are states, show a lap, by the pieces that are followed here."""
    if not lap_fits(line, lap):
        return False
    most = lap_mean(lap, worths)
    for state, choice, behind in edges or edges_by_pieces(line):
        worth = 0 if choice == -1 else worths[choice]
        if most.denominator * worth - most.numerator > prices[behind] - prices[state]:
            return False
    return True


def soonest_by_distances(line, orders):
    """Try, for each of these orders of kinds, all distances from each start to the next one; return the best plan."""
    far = line.reach + 1
    found = None
    for kinds in orders:
        for distances in itertools.product(range(1, far + 1), repeat=len(kinds) - 1):
            ticks = [0, *itertools.accumulate(distances)]
            plan = tuple(zip(ticks, kinds))
            if (found is None or (plan[-1][0], plan) < (found[-1][0], found)) and not pieces_clash(line, plan):
                found = plan
    return found


def open_starts(line, lap):
    """Return all (tick, kind) that could be added, once, to a lap that is repeated endlessly to both sides."""
    there = set()
    for number in range(-70 // len(lap) - 2, 70 // len(lap) + 3):
        for start, kind in enumerate(lap):
            if kind != -1:
                there |= taken(line.works[kind], number * len(lap) + start)
    return [(tick, kind) for tick, item in enumerate(lap) if item == -1
            for kind, work in enumerate(line.works) if not taken(work, tick) & there]
