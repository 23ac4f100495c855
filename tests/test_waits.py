"""Points [70] and [71]: waits that are put into works."""

import math
import random
import time
import unittest

from startgaps.errors import GapError, NoDistance, NoWaits, NoWork, TooLong
from startgaps.lines import Line
from startgaps.singles import constants
from startgaps.waits import shows_stretch, stretch, stretched, trade
from startgaps.works import bars, is_work, most_visits
from tests.oracles import is_constant_by_pieces, least_waits, with_waits
from tests.samples import (
    HUGE, LONGEST, WORK, Case, nested, not_integers, not_works, random_works, small_works, two_visits,
    with_each_item_replaced,
)

TWELVE = (0, 1, 0, 2, 1, 0, -1, 2, 1, 0, 3, 0)
# At these distances waits are needed in several places, also such that are not as small as can be by themselves.
CROWDED = ((0, 0, 1, 1, 1, 0, 0, 0, 1, 1, 1, 0), (1, 1, 0, 0, 0, 1, 1, 1, 0, 0, 0, 1), (0, 1) * 6, (0, 1, 2, 3) * 3,
           (0, 1, 2, 2, 1, 0) * 2, (0, -1) * 5 + (0, 0), (0,) * 11 + (1,), (0,) * 12, (5,) + (-1,) * 10 + (5,))


def works_of(seed, amount, ticks):
    """Return so many works of just so many items."""
    chance = random.Random(seed)
    found = []
    for _ in range(amount):
        stations = chance.randint(1, 5)
        inner = [chance.randint(-1, stations - 1) for _ in range(ticks)]
        inner[0], inner[-1] = chance.randrange(stations), chance.randrange(stations)
        found.append(tuple(inner))
    return found


def too_long_works():
    """Return works of more than twelve items, with bars and without."""
    return [(0,) * 13, LONGEST, two_visits(3, 12), (0, 1, 2, 3, 4, 5, 6, 7, 8, 9, 8, 7, 6), (4,) * 60]


def not_waits():
    """Return values that are no waits for a work of three items, of every kind and wrong in every place."""
    items = not_integers() + [-1, 12, 13, HUGE, -HUGE]
    wrong = [thing for thing in not_integers() if not isinstance(thing, tuple) or thing == nested(20)]
    wrong += [0, 1, (), (0,), (0, 0, 0), (0,) * 60, [0, 0], [1, 2], "0 0", ((0, 0),), ((0,), (0,)), {0: 0, 1: 0}]
    wrong += [(0,) * 4000, [0] * 4000, (11, 12), (12, 11), (True, False), (Line((0,)), 0)]
    return wrong + list(with_each_item_replaced((0, 0), items)) + list(with_each_item_replaced((11, 3), items))


def not_distances():
    return not_integers() + [0, -1, 13, 14, 60, HUGE, -HUGE]


class Stretched(Case):

    def test_of_the_session(self):
        self.gives((0, -1, 0, -1, -1, -1, -1, 0), stretched, WORK, (1, 0, 0, 0, 0, 0))

    def test_small(self):
        self.gives((5,), stretched, (5,), ())
        self.gives((5, 6), stretched, (5, 6), (0,))
        self.gives((5, -1, -1, 6), stretched, (5, 6), (2,))
        self.gives((5, -1, -1, -1, 6), stretched, (5, -1, 6), (2, 0))
        self.gives((5, -1, -1, -1, 6), stretched, (5, -1, 6), (0, 2))
        self.gives((5, -1, 6, -1, -1, -1, 7), stretched, (5, 6, 7), (1, 3))

    def test_waits_of_0(self):
        for work in random_works(1001, 40) + [WORK, LONGEST, TWELVE]:
            self.gives(work, stretched, work, (0,) * (len(work) - 1))

    def test_waits_of_11(self):
        self.gives((5,) + (-1,) * 11 + (6,), stretched, (5, 6), (11,))
        self.gives((5,) + ((-1,) * 11 + (5,)) * 4, stretched, (5,) * 5, (11,) * 4)

    def test_more_than_sixty_items(self):
        found = stretched((3,) * 60, (11,) * 59)
        self.same(found, (3,) + ((-1,) * 11 + (3,)) * 59)
        self.assertFalse(is_work(found))
        self.assertEqual(len(stretched((3,) * 5 + (4,), (11, 11, 11, 11, 10))), 60)
        self.assertTrue(is_work(stretched((3,) * 5 + (4,), (11, 11, 11, 11, 10))))
        self.assertEqual(len(stretched((3,) * 5 + (4,), (11,) * 5)), 61)
        self.assertFalse(is_work(stretched((3,) * 5 + (4,), (11,) * 5)))

    def test_any_waits(self):
        chance = random.Random(1002)
        for work in random_works(1002, 150):
            waits = tuple(chance.randint(0, 11) for _ in work[1:])
            self.gives(with_waits(work, waits), stretched, work, waits)

    def test_no_work_is_too_long(self):
        for work in too_long_works():
            self.gives(with_waits(work, (1,) * (len(work) - 1)), stretched, work, (1,) * (len(work) - 1))

    def test_wrong_waits(self):
        for thing in not_waits():
            self.refuses(NoWaits, stretched, (4, -1, 7), thing)

    def test_amounts(self):
        for length in range(1, 8):
            for amount in range(10):
                if amount == length - 1:
                    self.gives((2,) * length, stretched, (2,) * length, (0,) * amount)
                else:
                    self.refuses(NoWaits, stretched, (2,) * length, (0,) * amount)
        for thing in (None, [], (0,), ((),), "", 0, {}):
            self.refuses(NoWaits, stretched, (5,), thing)

    def test_sizes(self):
        for wait in range(-3, 16):
            if 0 <= wait <= 11:
                self.gives((5,) + (-1,) * wait + (6,), stretched, (5, 6), (wait,))
            else:
                self.refuses(NoWaits, stretched, (5, 6), (wait,))

    def test_wrong_work(self):
        for thing in not_works():
            self.refuses(NoWork, stretched, thing, ())
            self.refuses(NoWork, stretched, thing, None)

    def test_named(self):
        self.gives((5, -1, 6), stretched, work=(5, 6), waits=(1,))
        self.gives((5, -1, 6), stretched, waits=(1,), work=(5, 6))
        self.refuses(NoWaits, stretched, (5, 6), waits=[1])


class Stretch(Case):

    def test_of_the_session(self):
        self.gives((1, 0, 0, 0, 0, 0), stretch, WORK, 3)

    def test_of_the_session_at_other_distances(self):
        self.gives(None, stretch, WORK, 1)
        self.gives(None, stretch, WORK, 2)
        self.gives((0, 0, 0, 0, 0, 0), stretch, WORK, 4)
        self.gives((0, 0, 0, 0, 0, 1), stretch, WORK, 5)
        self.gives((1, 0, 0, 0, 0, 0), stretch, WORK, 6)
        for distance in range(7, 13):
            self.gives((0, 0, 0, 0, 0, 0), stretch, WORK, distance)

    def test_one_item(self):
        for distance in range(1, 13):
            self.gives((), stretch, (5,), distance)

    def test_without_bars(self):
        for work in ((0, 1), (0, 1, 2, 3, 4, 5, 6, 7, 8, 9), (3,) + (-1,) * 10 + (4,)):
            for distance in range(1, 13):
                self.gives((0,) * (len(work) - 1), stretch, work, distance)

    def test_twelve_visits(self):
        for distance in range(1, 12):
            self.gives(None, stretch, (4,) * 12, distance)
        self.gives((0,) * 11, stretch, (4,) * 12, 12)

    def test_distance_of_1(self):
        self.gives((0, 0), stretch, (1, 2, 3), 1)
        self.gives(None, stretch, (1, 2, 1), 1)

    def test_of_several_the_smallest(self):
        # One wait is needed between the two visits: behind the last item it is smallest.
        self.gives((0, 0, 0, 1), stretch, (3, -1, -1, -1, 3), 2)
        self.gives((0, 0, 0, 1), stretch, (3, 4, 5, 6, 3), 2)
        self.gives((0, 0, 0, 1), stretch, (3, 3, -1, -1, 3), 3)
        self.gives((1, 0, 0, 0, 0, 0, 3, 2, 0, 0, 0), stretch, CROWDED[0], 8)

    def test_all_works_of_few_items(self):
        found = set()
        for work in small_works(5, 2):
            for distance in range(1, 13):
                expected = least_waits(work, distance, 12) if distance >= most_visits(work) else None
                found.add(expected)
                self.gives(expected, stretch, work, distance)
        self.assertGreater(len(found), 14)

    def test_all_waits_of_a_small_sum(self):
        tried = set()
        works = [work for ticks in range(6, 13) for work in works_of(1010 + ticks, 14, ticks)]
        for work in works + list(CROWDED) + [TWELVE]:
            for distance in range(most_visits(work), 13):
                found = stretch(work, distance)
                if math.comb(sum(found) + len(work) - 2, sum(found)) < 10000:
                    self.same(least_waits(work, distance, sum(found)), found)
                    tried.add(sum(found))
        self.assertGreaterEqual(tried, {0, 1, 2, 3, 4})

    def test_less_is_not_enough(self):
        # Whatever the sum is, the waits make the distance constant, and no single wait can be shorter.
        for work in works_of(1031, 60, 12) + list(CROWDED):
            for distance in range(most_visits(work), 13):
                found = stretch(work, distance)
                self.assertTrue(is_constant_by_pieces(with_waits(work, found), distance))
                for at, wait in enumerate(found):
                    for less in range(wait):
                        waits = found[:at] + (less,) + found[at + 1:]
                        self.assertFalse(is_constant_by_pieces(with_waits(work, waits), distance))

    def test_none_just_below_the_most_visits(self):
        for work in works_of(1032, 60, 12) + works_of(1033, 60, 7) + list(CROWDED):
            for distance in range(1, 13):
                self.assertEqual(stretch(work, distance) is None, distance < most_visits(work))

    def test_constant_distances_need_no_waits(self):
        for work in works_of(1034, 60, 12) + works_of(1035, 60, 8):
            for distance in range(1, 13):
                needs_none = stretch(work, distance) == (0,) * (len(work) - 1)
                self.assertEqual(needs_none, distance in constants(work) or distance > len(work))

    def test_constant_for_the_stretched_work(self):
        for work in works_of(1036, 40, 12):
            for distance in range(most_visits(work), 13):
                longer = stretched(work, stretch(work, distance))
                if is_work(longer):
                    self.assertFalse([bar for bar in bars(longer, longer) if bar % distance == 0])

    def test_without_long_waiting(self):
        began = time.perf_counter()
        for work in CROWDED + tuple(works_of(1037, 100, 12)):
            for distance in range(1, 13):
                stretch(work, distance)
        self.assertLess(time.perf_counter() - began, 30)


class ShowsStretch(Case):

    def test_of_the_session(self):
        self.gives(True, shows_stretch, WORK, 3, (1, 0, 0, 0, 0, 0))
        self.gives(False, shows_stretch, WORK, 3, (0, 0, 0, 0, 0, 0))
        self.gives(False, shows_stretch, WORK, 3, None)

    def test_whatever_their_sum(self):
        self.gives(True, shows_stretch, WORK, 3, (4, 0, 0, 0, 0, 0))
        self.gives(True, shows_stretch, WORK, 3, (1, 3, 3, 3, 3, 3))
        self.gives(True, shows_stretch, WORK, 4, (0, 4, 8, 0, 0, 0))
        self.gives(True, shows_stretch, WORK, 4, (0, 4, 8, 0, 0, 1))
        self.gives(False, shows_stretch, WORK, 4, (0, 4, 8, 0, 0, 2))

    def test_one_item(self):
        for distance in range(1, 13):
            self.gives(True, shows_stretch, (5,), distance, ())
            for thing in (None, [], (0,), ((),), "", {}, True, 0):
                self.gives(False, shows_stretch, (5,), distance, thing)

    def test_more_than_sixty_items(self):
        # Visits 12 ticks apart: at distances of which 12 is no multiple, as long as the work is not too long for them.
        waits = (11,) * 11
        self.assertEqual(len(stretched((4,) * 12, waits)), 133)
        for distance in range(1, 13):
            self.gives(is_constant_by_pieces(with_waits((4,) * 12, waits), distance), shows_stretch, (4,) * 12, distance,
                       waits)
            self.gives(True, shows_stretch, tuple(range(10)) + (-1, 9), 7, waits)
        for work in ((4, -1, -1, -1, -1, -1, 4), (0, 1, 2, 3, 4, 5, 0)):
            for last in range(12):
                waits = (11, 11, 11, 11, 11, last)
                for distance in range(1, 13):
                    self.gives((61 + last) % distance != 0, shows_stretch, work, distance, waits)

    def test_any_waits(self):
        chance = random.Random(1041)
        found = set()
        for work in works_of(1041, 150, 12) + works_of(1042, 150, 6):
            waits = tuple(chance.choice([0, 0, 0, 1, 2, 11, chance.randint(0, 11)]) for _ in work[1:])
            for distance in range(1, 13):
                expected = is_constant_by_pieces(with_waits(work, waits), distance)
                found.add(expected)
                self.gives(expected, shows_stretch, work, distance, waits)
        self.assertEqual(found, {True, False})

    def test_below_the_most_visits(self):
        chance = random.Random(1043)
        for work in works_of(1043, 60, 12):
            for distance in range(1, min(most_visits(work), 13)):
                waits = tuple(chance.randint(0, 11) for _ in work[1:])
                self.gives(False, shows_stretch, work, distance, waits)

    def test_what_stretch_returns(self):
        for work in works_of(1044, 60, 12) + list(CROWDED):
            for distance in range(1, 13):
                found = stretch(work, distance)
                self.gives(found is not None, shows_stretch, work, distance, found)

    def test_no_waits(self):
        for thing in not_waits():
            for distance in (1, 3, 5, 12):
                self.gives(False, shows_stretch, (4, -1, 7), distance, thing)
        self.gives(True, shows_stretch, (4, -1, 7), 1, (0, 0))
        self.gives(True, shows_stretch, (4, -1, 7), 1, (11, 11))

    def test_any_value(self):
        good = (1, 0, 0, 0, 0, 0)
        for thing in not_integers() + [
                list(good), good[:-1], good + (0,), (good,), [good], (True, 0, 0, 0, 0, 0), (1, False, 0, 0, 0, 0),
                (1, 0, 0, 0, 0, -1), (1, 0, 0, 0, 0, 12), (1, 0, 0, 0, 0, (0,)), (1, 0, 0, 0, 0, None), "1 0 0 0 0 0",
                {1: 0}, nested(20), [nested(19)], (nested(19),) * 6, (0,) * 4000, [0] * 4000, good * 500, WORK,
                GapError("x"), Line(WORK), (Line(WORK),) * 6, ({},) * 6, (([],),) * 6]:
            self.gives(False, shows_stretch, WORK, 3, thing)
            self.gives(False, shows_stretch, WORK, 12, thing)

    def test_named(self):
        self.gives(True, shows_stretch, work=(5, 5), distance=2, thing=(0,))
        self.gives(False, shows_stretch, thing=(1,), distance=2, work=(5, 5))
        self.refuses(NoDistance, shows_stretch, (5, 5), distance=0, thing=(1,))


class Trade(Case):

    def test_of_the_session(self):
        self.gives(((3, 1), (4, 0)), trade, WORK)

    def test_one_item(self):
        self.gives(((1, 0),), trade, (5,))

    def test_without_bars(self):
        self.gives(((1, 0),), trade, (0, 1, 2, 3, 4, 5, 6, 7, 8, 9))
        self.gives(((1, 0),), trade, (3,) + (-1,) * 10 + (4,))

    def test_small(self):
        self.gives(((2, 0),), trade, (5, 5))
        self.gives(((2, 1), (3, 0)), trade, (5, -1, 5))
        self.gives(((2, 1), (3, 1), (4, 0)), trade, two_visits(5, 6))
        self.gives(((2, 0),), trade, two_visits(5, 11))
        self.gives(((12, 0),), trade, (5,) * 12)

    def test_from_the_most_visits_to_the_least_constant_distance(self):
        found = set()
        for work in works_of(1051, 60, 12) + works_of(1052, 60, 7) + works_of(1053, 20, 2) + list(CROWDED):
            distances = range(most_visits(work), min(constants(work)) + 1)
            expected = tuple((distance, sum(stretch(work, distance))) for distance in distances)
            found.add(len(expected))
            self.gives(expected, trade, work)
            self.assertEqual(trade(work)[-1][1], 0)
            self.assertTrue(all(waits > 0 for _, waits in trade(work)[:-1]))
        self.assertGreaterEqual(found, {1, 2, 3, 4, 5})

    def test_sums_by_trying_all_waits(self):
        for work in small_works(5, 2):
            for distance, total in trade(work):
                self.assertEqual(sum(least_waits(work, distance, 12)), total)

    def test_named(self):
        self.gives(((3, 1), (4, 0)), trade, work=WORK)
        self.refuses(TooLong, trade, work=LONGEST)


class Refusals(Case):

    def refuses_too_long(self, ticks, call, *arguments):
        error = self.refuses(TooLong, call, *arguments)
        self.same((error.ticks, error.limit), (ticks, 12))

    def test_too_long(self):
        for work in too_long_works():
            self.refuses_too_long(len(work), trade, work)
            for distance in (1, 12, 0, 13, None, True):
                self.refuses_too_long(len(work), stretch, work, distance)
                for thing in ((0,) * (len(work) - 1), None):
                    self.refuses_too_long(len(work), shows_stretch, work, distance, thing)

    def test_lengths(self):
        for length in range(1, 61):
            work = (3,) * length
            if length <= 12:
                self.gives(((length, 0),), trade, work)
                self.gives((0,) * (length - 1), stretch, work, 12)
                self.gives(True, shows_stretch, work, length, (0,) * (length - 1))
            else:
                self.refuses_too_long(length, trade, work)
                self.refuses_too_long(length, stretch, work, 12)
                self.refuses_too_long(length, shows_stretch, work, 12, (0,) * (length - 1))

    def test_wrong_distance(self):
        for thing in not_distances():
            self.refuses(NoDistance, stretch, WORK, thing)
            self.refuses(NoDistance, shows_stretch, WORK, thing, (1, 0, 0, 0, 0, 0))
            self.refuses(NoDistance, shows_stretch, WORK, thing, None)

    def test_distances(self):
        for distance in range(-3, 16):
            if 1 <= distance <= 12:
                self.gives((0, 0), stretch, (1, 2, 3), distance)
                self.gives(True, shows_stretch, (1, 2, 3), distance, (0, 0))
            else:
                self.refuses(NoDistance, stretch, (1, 2, 3), distance)
                self.refuses(NoDistance, shows_stretch, (1, 2, 3), distance, (0, 0))

    def test_wrong_work(self):
        for thing in not_works():
            self.refuses(NoWork, trade, thing)
            for distance in (3, 0, None):
                self.refuses(NoWork, stretch, thing, distance)
                self.refuses(NoWork, shows_stretch, thing, distance, ())

    def test_named(self):
        self.gives((1, 0, 0, 0, 0, 0), stretch, work=WORK, distance=3)
        self.gives((1, 0, 0, 0, 0, 0), stretch, distance=3, work=WORK)
        self.refuses(NoDistance, stretch, distance="3", work=WORK)


if __name__ == "__main__":
    unittest.main()
