"""What the tests share: a stricter test case, sample works, and wrong values of every kind."""

import fractions
import itertools
import random
import unittest

from startgaps.errors import GapError, NoWork, TooFar, TooMany
from startgaps.feeders import CarefulPaced, Feeder
from startgaps.lines import Line

WORK = (0, 0, -1, -1, -1, -1, 0)
LONGEST = (3,) + (-1,) * 58 + (9,)
HUGE = 10 ** 13 - 1


def two_visits(station, distance):
    """Return the work that comes to a station twice, at this distance, and to no other one."""
    return (station,) + (-1,) * (distance - 1) + (station,)


# As far as the limits let, with as many states as can be.
FAR_ONE = Line(two_visits(7, 8))
FAR_TWO = Line(two_visits(4, 5), two_visits(2, 5))
FAR_THREE = Line(two_visits(0, 5), two_visits(1, 5), two_visits(2, 5))


def nested(depth, inside=0):
    """Return a tuple in a tuple in a tuple, so many deep."""
    for _ in range(depth):
        inside = (inside,)
    return inside


def not_integers():
    """Return values of every kind but the integers."""
    return [
        None, True, False, "", "0", "1", "-", "0 0", [], [0], [1], (), (0,), (0, 0), {}, {0: 0}, {1: 1},
        [[0]], ((0,),), {"0": [0, (0,)]}, nested(20), [nested(19)], Feeder(Line((0,))), CarefulPaced(Line((0,)), 1),
        Line((0,)), Line((0,), (1,)), GapError(), NoWork("0"), TooMany(0, 1),
    ]


def not_lines():
    """Return values of every kind but lines."""
    return not_integers()[:-5] + [
        0, 1, -1, WORK, [WORK], (WORK,), "Line(1 works)", {0: WORK}, (Line(WORK),), [Line(WORK)], GapError(),
    ]


def with_each_item_replaced(items, others):
    """Yield the tuple of items with each single one replaced by each of others."""
    for at in range(len(items)):
        for other in others:
            yield items[:at] + (other,) + items[at + 1:]


def not_works():
    """Return values that are no works, of every kind and wrong in every place."""
    whole = [thing for thing in not_integers() if picture(thing) not in (picture((0,)), picture((0, 0)))]
    items = not_integers() + [-2, 10, 11, 10 ** 12, -10 ** 12]
    return whole + [
        0, 1, -1, [0, 0, -1, 0], (-1,), (-1, 0), (0, -1), (-1, -1), (-1, 0, -1), (0,) * 61, (0,) + (-1,) * 59 + (0,),
        (0,) * 4000, list(WORK), (WORK,), [WORK], ((0,), (1,)), dict.fromkeys(WORK, 0), (Line(WORK),),
    ] + list(with_each_item_replaced((0,), items + [-1])) \
      + list(with_each_item_replaced((4, -1, 7), items)) \
      + list(with_each_item_replaced(LONGEST, [True, False, None, "0", [0], (0,), {}, -2, 10]))


def small_works(longest, stations):
    """Return all works of up to so many items at so many stations."""
    items = (-1,) + tuple(range(stations))
    found = []
    for length in range(1, longest + 1):
        for work in itertools.product(items, repeat=length):
            if work[0] != -1 and work[-1] != -1:
                found.append(work)
    return found


def random_works(seed, amount, longest=60, stations=10):
    """Return so many works, the same ones for the same seed."""
    chance = random.Random(seed)
    found = []
    for _ in range(amount):
        inner = [chance.randint(-1, stations - 1) if chance.random() < 0.5 else -1
                 for _ in range(chance.randint(1, longest))]
        inner[0] = chance.randint(0, stations - 1)
        inner[-1] = chance.randint(0, stations - 1)
        found.append(tuple(inner))
    return found


def near_works(seed, amount):
    """Return so many works, none beyond the limit of its greatest bar with itself."""
    return [work for work in random_works(seed, 20 * amount, 14, 4) if Line(work).reach <= 8][:amount]


def near_lines(seed, amount, farthest=None):
    """Return so many lines of one to three works, none beyond the limits of its reach or beyond one that is given."""
    chance = random.Random(seed)
    found = []
    while len(found) < amount:
        kinds = chance.randint(1, 3)
        limit = min(farthest or 60, 8 if kinds == 1 else 5)
        longest = chance.randint(1, limit + 3)
        works = random_works(chance.randint(0, 10 ** 6), kinds, longest, chance.randint(1, 4))
        if Line(*works).reach <= limit:
            found.append(Line(*works))
    return found


def too_far_lines():
    """Return pairs of a line beyond the limits of its reach and the fields of TooFar."""
    return [
        (Line(two_visits(7, 9)), (9, 8)),
        (Line((7,) * 10), (9, 8)),
        (Line(two_visits(7, 59)), (59, 8)),
        (Line(two_visits(4, 6), two_visits(2, 5)), (6, 5)),
        (Line((3,), two_visits(2, 6)), (6, 5)),
        (Line((0, 9, 9, 9, 9, 9, 5), (5,)), (6, 5)),
        (Line((5,), (0, 8, 7, 6, 4, 3, 5)), (6, 5)),
        (Line(two_visits(0, 5), two_visits(1, 5), two_visits(2, 8)), (8, 5)),
        (Line(two_visits(0, 59), (1,), (2,)), (59, 5)),
    ]


def too_far_works():
    """Return pairs of a work beyond the limit of its greatest bar with itself and the fields of TooFar."""
    return [(line.works[0], fields) for line, fields in too_far_lines() if len(line.works) == 1] + [
        (two_visits(7, 10), (10, 8)), ((3, 3) + (-1,) * 7 + (3,), (9, 8)), (two_visits(2, 9) + (1, 0, 5), (9, 8)),
    ]


def random_worths(chance, line):
    """Return worths for a line, some of them often 0 or equal."""
    worths = (0,) * len(line.works)
    while not any(worths):
        worths = tuple(chance.choice([0, 1, 1, 2, 20, chance.randint(0, 20)]) for _ in line.works)
    return worths


def work_with_bars(distances):
    """Return a work whose bars with itself are these, one station for each: the visits take no tick twice."""
    items = {}
    for station, distance in enumerate(distances):
        at = next(at for at in itertools.count() if at not in items and at + distance not in items)
        items[at] = items[at + distance] = station
    return tuple(items.get(at, -1) for at in range(max(items, default=0) + 1)) if items else (0,)


def value(pair):
    """Return a fraction of the program as one of the library."""
    return fractions.Fraction(*pair)


def picture(thing):
    """Return a text in which values of different kinds differ, as True and 1 do not by ==."""
    name = type(thing).__name__
    if isinstance(thing, (tuple, list)):
        return f"{name}[{', '.join(picture(part) for part in thing)}]"
    if isinstance(thing, dict):
        return f"{name}[{', '.join(picture(key) + ': ' + picture(thing[key]) for key in thing)}]"
    if isinstance(thing, Line):
        return f"{name}[{picture(thing.works)}, {thing.reach}]"
    if isinstance(thing, Feeder):
        return f"{name}[{picture((thing.line, thing.now, thing.plan, thing.clashes, thing.changes))}]"
    if isinstance(thing, Exception):
        return f"{name}[{thing.args!r}, {vars(thing)!r}]"
    return f"{name} {thing!r}"


class Case(unittest.TestCase):
    """A test case that compares kinds, too, and holds calls to the general rules."""

    def same(self, got, expected):
        self.assertEqual(picture(got), picture(expected))

    def gives(self, expected, call, *arguments, **named):
        """Expect a result, twice, and that no argument is modified."""
        before = picture((arguments, named))
        self.same(call(*arguments, **named), expected)
        self.same(call(*arguments, **named), expected)
        self.assertEqual(picture((arguments, named)), before)

    def refuses(self, error, call, *arguments, **named):
        """Expect just this exception, twice, and that no argument is modified; return it."""
        before = picture((arguments, named))
        for _ in range(2):
            with self.assertRaises(GapError, msg=f"for {arguments!r} {named!r}") as caught:
                call(*arguments, **named)
            self.assertIs(type(caught.exception), error, f"for {arguments!r} {named!r}")
        self.assertEqual(picture((arguments, named)), before)
        return caught.exception

    def refuses_too_many(self, amount, limit, call, *arguments):
        error = self.refuses(TooMany, call, *arguments)
        self.same((error.amount, error.limit), (amount, limit))

    def refuses_too_far(self, fields, call, *arguments):
        error = self.refuses(TooFar, call, *arguments)
        self.same((error.bar, error.limit), fields)
