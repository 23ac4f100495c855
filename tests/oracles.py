"""What the document says, computed once more in slow ways that the program does not take.

Nothing here asks the program for bars, states or laps: pieces are followed to the stations that they take.
"""

import fractions
import itertools


def taken(work, start):
    """Return all (tick, station) that a piece takes."""
    return {(start + passed, station) for passed, station in enumerate(work) if station != -1}


def pieces_clash(line, starts):
    """Tell whether any two of these pieces, pairs (tick, kind), are at one station in the same tick."""
    there = set()
    for tick, kind in starts:
        places = taken(line.works[kind], tick)
        if places & there:
            return True
        there |= places
    return False


def state_by_pieces(line, starts, now):
    """Try each delay of each kind, and look where the pieces started before now are."""
    there = set()
    for tick, kind in starts:
        if tick < now:
            there |= taken(line.works[kind], tick)
    return tuple(
        tuple(delay for delay in range(70) if taken(work, now + delay) & there)
        for work in line.works
    )


def states_by_choices(line):
    """Follow all choices by the stations that pieces take, keeping the starts of one history for each state."""
    waiting = [((), 0)]
    found = {}
    while waiting:
        starts, now = waiting.pop()
        state = state_by_pieces(line, starts, now)
        if state in found:
            continue
        found[state] = (starts, now)
        waiting.append((starts, now + 1))
        for kind in range(len(line.works)):
            longer = starts + ((now, kind),)
            # What was started more than a work's length ago is gone.
            recent = tuple(start for start in longer if now - start[0] <= 60)
            if not pieces_clash(line, recent):
                waiting.append((recent, now + 1))
    return found


def lap_fits(line, lap):
    """Bend all ticks to one lap: no station may be taken twice in one of its ticks."""
    there = set()
    for start, kind in enumerate(lap):
        if kind != -1:
            for passed, station in enumerate(line.works[kind]):
                place = ((start + passed) % len(lap), station)
                if station != -1:
                    if place in there:
                        return False
                    there.add(place)
    return True


def lap_mean(lap, worths):
    """Return the mean of a lap as a fraction of the library."""
    return fractions.Fraction(sum(worths[kind] for kind in lap if kind != -1), len(lap))


def best_short_lap(line, worths, longest):
    """Try all laps of up to so many ticks: return (mean, lap), the shortest and then smallest lap of the best mean."""
    best = None
    for length in range(1, longest + 1):
        for lap in itertools.product(range(-1, len(line.works)), repeat=length):
            if (best is None or lap_mean(lap, worths) > best[0]) and lap_fits(line, lap):
                best = (lap_mean(lap, worths), lap)
    return (best[0].numerator, best[0].denominator), best[1]


def edges_by_pieces(line):
    """Return all (number of a state, choice, number of the state behind it), with states in ascending order."""
    histories = states_by_choices(line)
    numbers = {state: number for number, state in enumerate(sorted(histories))}
    edges = []
    for state, (starts, now) in histories.items():
        for choice in range(-1, len(line.works)):
            longer = starts + (((now, choice),) if choice != -1 else ())
            if not pieces_clash(line, longer):
                edges.append((numbers[state], choice, numbers[state_by_pieces(line, longer, now + 1)]))
    return edges


def is_shown(line, worths, lap, prices, edges=None):
    """Tell whether prices, as many as there are states, show a lap, by the pieces that are followed here."""
    if not lap_fits(line, lap):
        return False
    most = lap_mean(lap, worths)
    for state, choice, behind in edges or edges_by_pieces(line):
        worth = 0 if choice == -1 else worths[choice]
        if most.denominator * worth - most.numerator > prices[behind] - prices[state]:
            return False
    return True


def soonest_by_distances(line, orders):
    """Try, for each of these orders of kinds, all distances from each start to the next one; return the best plan."""
    far = line.reach + 1
    found = None
    for kinds in orders:
        for distances in itertools.product(range(1, far + 1), repeat=len(kinds) - 1):
            ticks = [0, *itertools.accumulate(distances)]
            plan = tuple(zip(ticks, kinds))
            if (found is None or (plan[-1][0], plan) < (found[-1][0], found)) and not pieces_clash(line, plan):
                found = plan
    return found


def open_starts(line, lap):
    """Return all (tick, kind) that could be added, once, to a lap that is repeated endlessly to both sides."""
    there = set()
    laps = max(len(work) for work in line.works) // len(lap) + 2
    for number in range(-laps, laps + 1):
        for start, kind in enumerate(lap):
            if kind != -1:
                there |= taken(line.works[kind], number * len(lap) + start)
    return [(tick, kind) for tick, item in enumerate(lap) if item == -1
            for kind, work in enumerate(line.works) if not taken(work, tick) & there]


def most_starts(work, ticks):
    """Return the most pieces of a work that can be started in so many ticks without a clash, by trying all ways."""
    ways = {(): 0}
    for _ in range(ticks):
        longer = {}
        for way, amount in ways.items():
            # A way is told by how long ago its pieces were started that are still there.
            for start in (False, True):
                agos = tuple(ago + 1 for ago in way if ago + 1 < len(work)) + ((0,) if start else ())
                places = [place for ago in agos for place in taken(work, -ago)]
                if len(places) == len(set(places)):
                    longer[agos] = max(longer.get(agos, 0), amount + start)
        ways = longer
    return max(ways.values())


def greedy_distances(work, amount):
    """Start so many pieces, each as soon as it can be behind the one before; return the distances."""
    there = taken(work, 0)
    distances = []
    tick = 0
    for _ in range(amount):
        distance = 1
        while taken(work, tick + distance) & there:
            distance += 1
        tick += distance
        there |= taken(work, tick)
        distances.append(distance)
    return distances


def shortest_repetition(items):
    """Return (before, again) for items that repeat: as few before as possible, then as few again.

    Only what is repeated three times or more in the items is taken for a repetition.
    """
    for before in range(len(items)):
        for length in range(1, (len(items) - before) // 3 + 1):
            if items[before:-length] == items[before + length:]:
                return tuple(items[:before]), tuple(items[before:before + length])
    raise AssertionError("no repetition is seen")


def passes(lap, kinds):
    """Return how many whole passes through the kinds the starts of a lap are, from any place on; 0 if they are none."""
    starts = [kind for kind in lap if kind != -1]
    amount = len(starts) // len(kinds)
    for place in range(len(kinds)):
        if starts and starts == list(kinds[place:] + kinds[:place]) * amount:
            return amount
    return 0


def shortest_turns(line, kinds, longest):
    """Try all laps of up to so many ticks: return the least (ticks for a pass, ticks, lap), None if there is none."""
    found = [(fractions.Fraction(ticks, passes(lap, kinds)), ticks, lap)
             for ticks in range(1, longest + 1)
             for lap in itertools.product(range(-1, len(line.works)), repeat=ticks)
             if passes(lap, kinds) and lap_fits(line, lap)]
    return min(found, default=None)


def is_constant_by_pieces(items, distance):
    """Start pieces of these items at a distance, as long as the first one is under way."""
    behind = range(distance, len(items), distance)
    return not any(taken(items, start) & taken(items, 0) for start in behind)


def with_waits(work, waits):
    """Return the items of a work with so many -1 behind each but the last one."""
    return tuple(item for station, wait in zip(work, (*waits, 0)) for item in (station,) + (-1,) * wait)


def waits_of_sum(places, total):
    """Yield all waits for so many places with this sum, the smallest ones first."""
    if places == 0:
        if total == 0:
            yield ()
        return
    for wait in range(min(total, 11) + 1):
        for others in waits_of_sum(places - 1, total - wait):
            yield (wait, *others)


def least_waits(work, distance, most):
    """Try all waits by their sums up to a greatest one: return the first ones with which a distance is constant."""
    for total in range(most + 1):
        for waits in waits_of_sum(len(work) - 1, total):
            if is_constant_by_pieces(with_waits(work, waits), distance):
                return waits
    return None


def lap_rate(lap):
    """Return the rate of a lap as two fractions of the library."""
    return fractions.Fraction(lap.count(0), len(lap)), fractions.Fraction(lap.count(1), len(lap))


def short_rates(line, longest):
    """Try all laps of up to so many ticks: return a dict from each rate to the smallest of the shortest laps."""
    found = {}
    for ticks in range(1, longest + 1):
        for lap in itertools.product((-1, 0, 1), repeat=ticks):
            if lap_rate(lap) not in found and lap_fits(line, lap):
                found[lap_rate(lap)] = lap
    return found


def is_under_line(corners, pair):
    """Tell whether a pair is at most a point on the line through the corners, by trying them and what lies between."""
    if any(pair[0] <= x and pair[1] <= y for x, y in corners):
        return True
    for (left, high), (right, low) in zip(corners, corners[1:]):
        if left <= pair[0] <= right and pair[1] <= high + (low - high) * (pair[0] - left) / (right - left):
            return True
    return False


def corners_of(points):
    """Return those of the points that are needed so that each one is at most a point on the line through them."""
    first = max(points, key=lambda point: (point[1], point[0]))
    last = max(points)
    needed = [first]
    while needed[-1] != last:
        # The next corner is where the line falls least steeply, as far off as can be.
        x, y = needed[-1]
        needed.append(max((point for point in points if point[0] > x),
                          key=lambda point: ((point[1] - y) / (point[0] - x), point[0])))
    return needed


def sparsest_short_lap(line, longest):
    """Try all laps of up to so many ticks: return the least (starts per tick, ticks, lap) of the full ones, or None."""
    found = [(fractions.Fraction(ticks - lap.count(-1), ticks), ticks, lap)
             for ticks in range(1, longest + 1)
             for lap in itertools.product(range(-1, len(line.works)), repeat=ticks)
             if lap_fits(line, lap) and not open_starts(line, lap)]
    return min(found, default=None)
