"""Point [90]: laps to which nothing can be added."""

import fractions
import itertools
import random
import time
import unittest

from startgaps.bests import best
from startgaps.errors import NoLap, NoLine, NotFitting, TooFar
from startgaps.fulls import is_full, open_ticks, sparsest
from startgaps.laps import fits
from startgaps.lines import Line
from startgaps.singles import greedy
from tests.oracles import lap_fits, open_starts, sparsest_short_lap
from tests.samples import (
    FAR_ONE, FAR_THREE, FAR_TWO, LONGEST, WORK, Case, near_lines, not_lines, random_works, too_far_lines, two_visits,
    value, work_with_bars,
)
from tests.test_laps import not_laps

ONE = Line(WORK)
TWO = Line((0, 0), (1, -1, 1))
FREE = Line((0,), (1,), (2,))
LAP = (-1, -1, -1, 0, -1, -1, 0)
# As far as the limits of sparsest let.
NEAR_ONE = Line(two_visits(7, 5))
NEAR_TWO = Line(two_visits(4, 3), two_visits(2, 3))
NEAR_THREE = Line(two_visits(0, 3), two_visits(1, 3), two_visits(2, 3))


def short_lines(seed, amount):
    """Return so many lines, none beyond the limits of sparsest."""
    found = near_lines(seed, 3 * amount, 5)
    return [line for line in found if line.reach <= (5 if len(line.works) == 1 else 3)][:amount]


def random_lap(chance, line, ticks):
    """Return a lap that fits, to which starts are added as long as the dice let."""
    lap = (-1,) * ticks
    for _ in range(chance.randint(0, 2 * ticks)):
        at = chance.randrange(ticks)
        longer = lap[:at] + (chance.randrange(len(line.works)),) + lap[at + 1:]
        if lap[at] == -1 and lap_fits(line, longer):
            lap = longer
    return lap


def filled(chance, line, ticks):
    """Return a lap of so many ticks to which no start can be added that is repeated with the lap."""
    lap = (-1,) * ticks
    places = list(itertools.product(range(ticks), range(len(line.works))))
    chance.shuffle(places)
    for at, kind in places:
        longer = lap[:at] + (kind,) + lap[at + 1:]
        if lap[at] == -1 and lap_fits(line, longer):
            lap = longer
    return lap


class OpenTicks(Case):

    def test_of_the_session(self):
        self.gives((), open_ticks, ONE, LAP)
        self.gives((), open_ticks, ONE, (0, -1, 0, -1, 0) + (-1,) * 6)
        self.gives(((3, 0), (4, 0)), open_ticks, ONE, (0,) + (-1,) * 6)

    def test_without_starts(self):
        self.gives(((0, 0),), open_ticks, ONE, (-1,))
        self.gives(((0, 0), (1, 0), (2, 0)), open_ticks, ONE, (-1, -1, -1))
        self.gives(((0, 0), (0, 1), (0, 2), (1, 0), (1, 1), (1, 2)), open_ticks, FREE, (-1, -1))
        self.gives(tuple((tick, 0) for tick in range(3000)), open_ticks, Line(LONGEST), (-1,) * 3000)

    def test_one_item(self):
        self.gives((), open_ticks, FREE, (1,))
        self.gives(((0, 0), (0, 1)), open_ticks, TWO, (-1,))
        self.gives((), open_ticks, Line((3,)), (0,))

    def test_without_bars(self):
        self.gives(((1, 0), (1, 1), (1, 2)), open_ticks, FREE, (2, -1))
        self.gives(((1, 0),), open_ticks, Line(LONGEST), (0, -1))
        self.gives((), open_ticks, FREE, (2, 0))

    def test_only_in_ticks_without_a_start(self):
        self.gives((), open_ticks, Line((0,), (1,)), (0, 0, 0))
        self.gives(((1, 0), (1, 1)), open_ticks, Line((0,), (1,)), (0, -1, 0))

    def test_added_once(self):
        # A start in each second tick would clash with itself one lap later, once it is repeated; by itself it fits.
        line = Line(two_visits(3, 2))
        self.assertFalse(fits(line, (-1, 0)))
        self.gives(((0, 0), (1, 0)), open_ticks, line, (-1, -1))
        self.gives(((0, 0),), open_ticks, Line((5,) * 60), (-1,))

    def test_each_by_itself(self):
        # Both could be added, but not together.
        self.gives(((2, 0), (3, 0)), open_ticks, Line((3, 3)), (0, -1, -1, -1, -1))

    def test_clashes_with_pieces_before_and_later(self):
        line = Line((0, 1, 2), (2,))
        self.same((line(0, 1), line(1, 0)), ((2,), ()))
        self.gives(((1, 0), (1, 1), (2, 0), (3, 0), (3, 1)), open_ticks, line, (0, -1, -1, -1))
        self.gives(((1, 0), (1, 1), (2, 1), (3, 0), (3, 1)), open_ticks, line, (1, -1, -1, -1))

    def test_several_laps_apart(self):
        line = Line(two_visits(3, 59))
        for ticks in (2, 3, 4, 7, 20, 58):
            lap = (0,) + (-1,) * (ticks - 1)
            closed = {59 % ticks, -59 % ticks}
            self.gives(tuple((at, 0) for at in range(1, ticks) if at not in closed), open_ticks, line, lap)

    def test_by_the_stations_of_all_pieces(self):
        chance = random.Random(1201)
        lines = [ONE, TWO, FREE, FAR_ONE, FAR_TWO, FAR_THREE, Line(LONGEST)] + near_lines(1201, 80)
        lines += [Line(*random_works(at, 1 + at % 3, 60, 1 + at % 10)) for at in range(60)]
        found = set()
        for line in lines:
            for ticks in (1, 2, 3, 5, 8, 13, 40):
                lap = random_lap(chance, line, ticks)
                expected = tuple(open_starts(line, lap))
                found.add(len(expected) > 0)
                self.gives(expected, open_ticks, line, lap)
                self.gives(not expected, is_full, line, lap)
        self.assertEqual(found, {True, False})

    def test_all_short_laps(self):
        for line in near_lines(1202, 30) + [ONE, TWO, FREE]:
            for ticks in range(1, 5):
                for lap in itertools.product(range(-1, len(line.works)), repeat=ticks):
                    if lap_fits(line, lap):
                        self.same(open_ticks(line, lap), tuple(open_starts(line, lap)))
                    else:
                        self.refuses(NotFitting, open_ticks, line, lap)

    def test_a_lap_twice(self):
        chance = random.Random(1203)
        for line in near_lines(1203, 60):
            lap = random_lap(chance, line, chance.randint(1, 6))
            once = open_ticks(line, lap)
            later = tuple((tick + len(lap), kind) for tick, kind in once)
            self.gives(once + later, open_ticks, line, lap * 2)


class IsFull(Case):

    def test_of_the_session(self):
        self.gives(True, is_full, ONE, LAP)
        self.gives(True, is_full, ONE, (0, -1, 0, -1, 0) + (-1,) * 6)
        self.gives(False, is_full, ONE, (0,) + (-1,) * 6)
        self.gives(True, is_full, ONE, (0, -1, -1, -1))

    def test_without_starts(self):
        for line in (ONE, TWO, FREE, Line(LONGEST), Line((5,) * 60)):
            for ticks in (1, 2, 300):
                self.gives(False, is_full, line, (-1,) * ticks)

    def test_a_start_in_each_tick(self):
        for lap in ((0,), (1, 2), (0, 1, 2) * 700):
            self.gives(True, is_full, FREE, lap)

    def test_full_for_one_kind_only(self):
        self.gives(True, is_full, Line((0, 0)), (0, -1))
        self.gives(False, is_full, Line((0, 0), (1,)), (0, -1))
        self.gives(True, is_full, Line((0, 0), (0,)), (0, -1))

    def test_laps_of_best(self):
        chance = random.Random(1211)
        for line in near_lines(1211, 80) + [ONE, TWO, FREE, FAR_ONE, FAR_TWO, FAR_THREE]:
            worths = tuple(chance.randint(1, 20) for _ in line.works)
            self.gives(True, is_full, line, best(line, worths)[1])


class Sparsest(Case):

    def test_small(self):
        self.gives(((1, 1), (0,)), sparsest, Line((3,)))
        self.gives(((1, 3), (-1, -1, 0)), sparsest, Line((3, 3)))
        self.gives(((1, 5), (-1, -1, -1, -1, 0)), sparsest, Line((3, 3, 3)))
        self.gives(((1, 11), (-1,) * 10 + (0,)), sparsest, Line((3,) * 6))
        self.gives(((1, 3), (-1, -1, 0)), sparsest, NEAR_ONE)
        # Each tick without a start would need three pieces so far from it as there are only two.
        self.gives(((1, 1), (0, 1)), sparsest, NEAR_THREE)

    def test_without_bars(self):
        self.gives(((1, 1), (0,)), sparsest, FREE)
        self.gives(((1, 1), (0,)), sparsest, Line(LONGEST))

    def test_against_short_laps(self):
        same = 0
        for line in short_lines(1221, 120) + [NEAR_ONE, NEAR_TWO, NEAR_THREE, TWO, FREE]:
            longest = {1: 11, 2: 7, 3: 5}[len(line.works)]
            (most, lap), short = sparsest(line), sparsest_short_lap(line, longest)
            if len(lap) <= longest:
                self.assertEqual((value(most), len(lap), lap), short)
                same += 1
            elif short:
                self.assertLess(value(most), short[0])
        self.assertGreater(same, 80)

    def test_all_bars_of_one_work(self):
        for many in range(6):
            for distances in itertools.combinations(range(1, 6), many):
                line = Line(work_with_bars(distances))
                most, lap = sparsest(line)
                if len(lap) <= 12:
                    self.assertEqual((value(most), len(lap), lap), sparsest_short_lap(line, len(lap)))

    def test_the_lap_is_full_and_has_the_mean(self):
        for line in short_lines(1222, 200) + [NEAR_ONE, NEAR_TWO, NEAR_THREE]:
            most, lap = sparsest(line)
            self.gives((most, lap), sparsest, line)
            self.gives(True, is_full, line, lap)
            self.same(open_starts(line, lap), [])
            self.same(fractions.Fraction(len(lap) - lap.count(-1), len(lap)).as_integer_ratio(), most)

    def test_no_full_lap_has_fewer_starts(self):
        chance = random.Random(1223)
        tried = 0
        for line in short_lines(1223, 100) + [NEAR_ONE, NEAR_TWO, NEAR_THREE]:
            least = value(sparsest(line)[0])
            for ticks in range(1, 25, 3):
                lap = filled(chance, line, ticks)
                if not open_starts(line, lap):
                    self.assertGreaterEqual(fractions.Fraction(ticks - lap.count(-1), ticks), least)
                    tried += 1
            self.assertLessEqual(least, value(best(line, (1,) * len(line.works))[0]))
        self.assertGreater(tried, 300)

    def test_as_soon_as_possible_is_full(self):
        for many in range(5):
            for distances in itertools.combinations(range(1, 6), many):
                work = work_with_bars(distances)
                again = greedy(work)[1]
                self.assertLessEqual(value(sparsest(Line(work))[0]), fractions.Fraction(len(again), sum(again)))

    def test_the_farthest_lines(self):
        began = time.perf_counter()
        for line in (NEAR_ONE, NEAR_TWO, NEAR_THREE, Line((1,) * 6), Line((1,) * 4, (1,) * 4, (1,) * 4),
                     Line((0, -1, -1, 0), (1, -1, 0, 1), (2, 0, -1, 2)), Line((0, 1, 2, 3), (3, 2, 1, 0), (1, -1, -1, 1))):
            self.assertEqual(line.reach, 5 if len(line.works) == 1 else 3)
            self.gives(True, is_full, line, sparsest(line)[1])
        self.assertLess(time.perf_counter() - began, 30)


class Refusals(Case):

    def test_too_far(self):
        for line, (bar, limit) in too_far_lines():
            self.refuses_too_far((bar, {8: 5, 5: 3}[limit]), sparsest, line)

    def test_one_more_than_the_limits(self):
        for line in (Line(two_visits(7, 6)), Line((1,) * 7)):
            self.refuses_too_far((6, 5), sparsest, line)
        for line in (Line(two_visits(7, 8)), Line((1,) * 9)):
            self.refuses_too_far((8, 5), sparsest, line)
        for line in (Line(two_visits(4, 4), (2,)), Line((3,), two_visits(2, 4)), Line((0,), (1,), (2,) * 5)):
            self.refuses_too_far((4, 3), sparsest, line)
        self.refuses_too_far((5, 3), sparsest, FAR_THREE)
        self.assertEqual([line.reach for line in (NEAR_ONE, NEAR_TWO, NEAR_THREE)], [5, 3, 3])

    def test_no_line_is_too_far_for_a_lap(self):
        for line, _ in too_far_lines():
            self.gives(False, is_full, line, (-1,))
            self.assertEqual(len(open_ticks(line, (-1,))), len(line.works))

    def test_not_fitting(self):
        for line, lap in ((ONE, (0,)), (ONE, (0, -1)), (TWO, (0, 0)), (TWO, (1, -1)), (Line((5,) * 60), (0,) * 2000),
                          (Line(two_visits(3, 59)), (0,)), (Line((0, 1), (1,)), (0, 1))):
            self.refuses(NotFitting, open_ticks, line, lap)
            self.refuses(NotFitting, is_full, line, lap)

    def test_wrong_lap(self):
        for thing in not_laps():
            self.refuses(NoLap, open_ticks, TWO, thing)
            self.refuses(NoLap, is_full, TWO, thing)

    def test_wrong_line(self):
        for thing in not_lines():
            self.refuses(NoLine, sparsest, thing)
            for lap in ((-1,), (0,), None, ()):
                self.refuses(NoLine, open_ticks, thing, lap)
                self.refuses(NoLine, is_full, thing, lap)

    def test_named(self):
        self.gives(((1, 0),), open_ticks, line=Line((3,)), lap=(0, -1))
        self.gives(False, is_full, lap=(0, -1), line=Line((3,)))
        self.gives(((1, 1), (0,)), sparsest, line=FREE)
        self.refuses(TooFar, sparsest, line=ONE)
        self.refuses(NotFitting, is_full, ONE, lap=(0,))


if __name__ == "__main__":
    unittest.main()
