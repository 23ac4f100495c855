"""Points [50] and [51], and of [130] what it says of works backwards, of two bars and of bars that are multiplied."""

import fractions
import itertools
import math
import time
import unittest

from startgaps.bests import best
from startgaps.errors import NoWork, TooFar
from startgaps.laps import fits
from startgaps.lines import Line
from startgaps.orders import early
from startgaps.singles import bounds, constants, gap, greedy, is_greedy_best
from startgaps.works import bars, most_visits
from tests.oracles import best_short_lap, greedy_distances, lap_fits, most_starts, shortest_repetition
from tests.samples import (
    FAR_ONE, LONGEST, WORK, Case, near_works, not_works, random_works, small_works, too_far_works, two_visits, value,
    work_with_bars,
)

FAR = FAR_ONE.works[0]
LIMITED = (gap, greedy, bounds, is_greedy_best)
# The first distances of this one, if each piece is started as soon as it can be, do not come again.
LATE = work_with_bars((2, 7, 8))


def as_pair(number):
    """Return a number as a fraction of the program."""
    return fractions.Fraction(number).as_integer_ratio()


class Gap(Case):

    def test_of_the_session(self):
        self.gives((7, 2), gap, WORK)

    def test_one_item(self):
        for station in range(10):
            self.gives((1, 1), gap, (station,))

    def test_without_bars(self):
        for work in ((0, 1), (0, 1, 2, 3, 4, 5, 6, 7, 8, 9), (3,) + (-1,) * 58 + (4,), LONGEST):
            self.gives((), bars, work, work)
            self.gives((1, 1), gap, work)

    def test_small(self):
        self.gives((2, 1), gap, (3, 3))
        self.gives((3, 1), gap, (3, 3, 3))
        self.gives((9, 1), gap, (3,) * 9)
        for distance in range(1, 9):
            self.gives((2, 1), gap, two_visits(3, distance))

    def test_is_the_best_mean_the_other_way_round(self):
        for work in near_works(801, 60) + [FAR]:
            (top, bottom), _ = best(Line(work), (1,))
            self.gives((bottom, top), gap, work)

    def test_against_all_laps_where_they_are_short(self):
        for work in near_works(802, 60):
            (top, bottom), lap = best_short_lap(Line(work), (1,), 9)
            found = value(gap(work))
            self.assertLessEqual(found, fractions.Fraction(bottom, top))
            if len(best(Line(work), (1,))[1]) <= 9:
                self.assertEqual(found, fractions.Fraction(bottom, top))

    def test_against_the_most_starts_in_each_number_of_ticks(self):
        # Some of so many ticks of the best lap have at least as many starts as its mean says; and starts in so many
        # ticks can be repeated once the last one bars nothing more.
        for work in near_works(803, 40) + [WORK, LATE]:
            reach = max(bars(work, work), default=0)
            for ticks in (1, 2, 3, 5, 8, 13, 30):
                starts = most_starts(work, ticks)
                self.assertLessEqual(ticks, starts * value(gap(work)))
                self.assertLessEqual(starts * value(gap(work)), ticks + reach)

    def test_the_farthest(self):
        began = time.perf_counter()
        self.gives((2, 1), gap, FAR)
        self.gives((9, 1), gap, (1,) * 9)
        self.gives((2, 1), gap, (0,) + (-1,) * 7 + (0,) + (-1,) * 50 + (5,))
        self.assertLess(time.perf_counter() - began, 30)


class Constants(Case):

    def test_of_the_session(self):
        self.gives((4, 7), constants, WORK)

    def test_one_item(self):
        self.gives((1,), constants, (5,))

    def test_without_bars(self):
        self.gives((1, 2, 3, 4), constants, (4, 3, 2, 1))
        self.gives(tuple(range(1, 61)), constants, LONGEST)

    def test_only_the_length(self):
        self.gives((3,), constants, (3, 3, 3))
        self.gives((60,), constants, (3,) * 60)

    def test_multiples(self):
        self.gives((4, 5, 7, 8), constants, two_visits(3, 6) + (1,))
        self.gives(tuple(at for at in range(1, 61) if 59 % at), constants, two_visits(3, 59))
        self.gives(tuple(at for at in range(1, 50) if 48 % at), constants, two_visits(3, 48))

    def test_as_no_bar_is_a_multiple(self):
        for work in random_works(811, 300) + small_works(5, 2):
            expected = [at for at in range(1, len(work) + 1) if not any(bar % at == 0 for bar in bars(work, work))]
            self.gives(tuple(expected), constants, work)

    def test_as_starts_at_the_distance_never_clash(self):
        for work in random_works(812, 150, 20, 4) + [WORK, FAR]:
            found = [at for at in range(1, len(work) + 1) if lap_fits(Line(work), (0,) + (-1,) * (at - 1))]
            self.gives(tuple(found), constants, work)
            self.assertEqual(found[-1], len(work))

    def test_no_work_is_too_far(self):
        for work, _ in too_far_works():
            self.assertIn(len(work), constants(work))


class Greedy(Case):

    def test_of_the_session(self):
        self.gives(((), (2, 2, 7)), greedy, WORK)

    def test_one_item(self):
        self.gives(((), (1,)), greedy, (5,))

    def test_without_bars(self):
        self.gives(((), (1,)), greedy, (0, 1, 2, 3, 4, 5))
        self.gives(((), (1,)), greedy, LONGEST)

    def test_small(self):
        self.gives(((), (2,)), greedy, (3, 3))
        self.gives(((), (9,)), greedy, (3,) * 9)
        self.gives(((), (1, 3)), greedy, two_visits(3, 2))
        self.gives(((), (1, 1, 1, 1, 1, 1, 1, 9)), greedy, FAR)

    def test_distances_that_come_only_once(self):
        self.gives(((1, 5), (3,)), greedy, work_with_bars((2, 4, 7)))
        self.gives(((1, 6), (3,)), greedy, work_with_bars((2, 4, 5, 8)))
        self.gives(((1, 1, 4, 5), (1, 4)), greedy, work_with_bars((3, 7, 8)))
        self.gives(((1, 3, 1, 5), (4, 1)), greedy, work_with_bars((2, 7, 8)))

    def test_start_by_start(self):
        works = [work_with_bars(distances) for many in range(9)
                 for distances in itertools.combinations(range(1, 9), many)]
        for work in works + near_works(821, 60) + [WORK, FAR]:
            self.gives(shortest_repetition(greedy_distances(work, 200)), greedy, work)

    def test_as_early_does(self):
        for work in near_works(822, 80) + [WORK, FAR, LATE]:
            before, again = greedy(work)
            ticks = itertools.accumulate([0, *before, *again * 12])
            plan = tuple((tick, 0) for tick in itertools.islice(ticks, 12))
            self.same(early(Line(work), (0,) * 12), plan)

    def test_what_comes_again_fits(self):
        for work in near_works(823, 80):
            _, again = greedy(work)
            lap = [item for distance in again for item in (0,) + (-1,) * (distance - 1)]
            self.gives(True, fits, Line(work), tuple(lap))


class Bounds(Case):

    def test_of_the_session(self):
        self.gives(((3, 1), (7, 2), (11, 3), (4, 1)), bounds, WORK)

    def test_one_item(self):
        self.gives(((1, 1), (1, 1), (1, 1), (1, 1)), bounds, (7,))

    def test_without_bars(self):
        self.gives(((1, 1), (1, 1), (1, 1), (1, 1)), bounds, LONGEST)

    def test_small(self):
        self.gives(((9, 1), (9, 1), (9, 1), (9, 1)), bounds, (3,) * 9)
        self.gives(((2, 1), (2, 1), (2, 1), (2, 1)), bounds, FAR)
        self.gives(((2, 1), (2, 1), (2, 1), (2, 1)), bounds, two_visits(3, 2))

    def test_each_by_itself(self):
        for work in near_works(831, 80) + [LATE]:
            again = shortest_repetition(greedy_distances(work, 200))[1]
            expected = ((most_visits(work), 1), gap(work), as_pair(fractions.Fraction(sum(again), len(again))),
                        (len(bars(work, work)) + 1, 1))
            self.gives(expected, bounds, work)

    def test_none_is_greater_than_the_next_one(self):
        works = near_works(832, 200) + [work for work in small_works(6, 2)]
        for work in works:
            told = [value(pair) for pair in bounds(work)]
            self.assertEqual(told, sorted(told))

    def test_all_of_them_can_differ(self):
        found = [len(set(bounds(work_with_bars(distances)))) for distances in itertools.combinations(range(1, 9), 3)]
        self.assertIn(4, found)


class IsGreedyBest(Case):

    def test_of_the_session(self):
        self.gives(False, is_greedy_best, WORK)

    def test_small(self):
        for work in ((7,), (3, 3), LONGEST, FAR, two_visits(3, 2), (3,) * 9):
            self.gives(True, is_greedy_best, work)

    def test_second_and_third_bound(self):
        found = set()
        for work in near_works(841, 200):
            _, least, third, _ = bounds(work)
            found.add(least == third)
            self.gives(least == third, is_greedy_best, work)
        self.assertEqual(found, {True, False})


class Refusals(Case):

    def test_no_work(self):
        for thing in not_works():
            for call in (*LIMITED, constants):
                self.refuses(NoWork, call, thing)

    def test_too_far(self):
        for work, fields in too_far_works():
            for call in LIMITED:
                self.refuses_too_far(fields, call, work)

    def test_as_far_as_the_limit_lets(self):
        for work in (FAR, (1,) * 9, FAR + (-1,) * 50 + (5,)):
            self.assertEqual(Line(work).reach, 8)
            for call in LIMITED:
                call(work)

    def test_no_work_comes_before_too_far(self):
        for thing in ((7,) * 61, [7] * 20, (7,) * 20 + (10,), (-1,) + (7,) * 20, (True,) * 20):
            for call in LIMITED:
                self.refuses(NoWork, call, thing)

    def test_named(self):
        self.gives((7, 2), gap, work=WORK)
        self.gives((4, 7), constants, work=WORK)
        self.gives(((), (2, 2, 7)), greedy, work=WORK)
        self.gives(((3, 1), (7, 2), (11, 3), (4, 1)), bounds, work=WORK)
        self.gives(False, is_greedy_best, work=WORK)
        self.refuses(TooFar, gap, work=two_visits(0, 9))


class WhatHolds(Case):

    def test_backwards(self):
        for work in near_works(851, 80) + [WORK, LATE]:
            self.gives(gap(work), gap, work[::-1])
            self.gives(constants(work), constants, work[::-1])
            self.gives(greedy(work), greedy, work[::-1])
            self.gives(bounds(work), bounds, work[::-1])

    def test_two_bars(self):
        for one, other in itertools.combinations(range(1, 9), 2):
            if math.gcd(one, other) == 1:
                both_odd = one % 2 == 1 and other % 2 == 1
                expected = 2 if both_odd else fractions.Fraction(2 * (one + other), one + other - 1)
                self.gives(as_pair(expected), gap, work_with_bars((one, other)))

    def test_bars_times_a_number(self):
        for many in range(1, 5):
            for distances in itertools.combinations(range(1, 5), many):
                known = gap(work_with_bars(distances))
                for times in range(2, 8 // distances[-1] + 1):
                    self.gives(known, gap, work_with_bars([times * distance for distance in distances]))


if __name__ == "__main__":
    unittest.main()
