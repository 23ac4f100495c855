"""Point [40], and of [130] what it says of laps that fit."""

import itertools
import random
import unittest

from startgaps.errors import NoLap, NoLine, NoWorths
from startgaps.laps import fits, mean
from startgaps.lines import Line
from startgaps.plans import clash
from startgaps.states import after, choices
from startgaps.works import bars
from tests.oracles import lap_fits
from tests.samples import (
    FAR_THREE, HUGE, LONGEST, WORK, Case, near_lines, nested, not_integers, not_lines, picture, random_works,
    small_works, two_visits, with_each_item_replaced,
)

ONE = Line(WORK)
TWO = Line((0, 0), (1, -1, 1))
THREE = Line((0,), (1, 1), (2, -1, 2))


def fits_by_bars(line, lap):
    """Try all pairs of starts, a start with itself too, and any number of whole laps, as [130] says."""
    barred = [[bars(one, other) for other in line.works] for one in line.works]
    starts = [(tick, kind) for tick, kind in enumerate(lap) if kind != -1]
    for (tick, kind), (later, other) in itertools.product(starts, repeat=2):
        if any(distance % len(lap) == (later - tick) % len(lap) for distance in barred[kind][other]):
            return False
    return True


def plan_of(lap, starts=60):
    """Return the plan of the first starts of a lap, from tick 0 on."""
    if all(kind == -1 for kind in lap):
        return ()
    turns = enumerate(itertools.cycle(lap))
    return tuple(itertools.islice(((tick, kind) for tick, kind in turns if kind != -1), starts))


def not_laps():
    """Return values that are no laps of a line of two works, of every kind and wrong in every place."""
    items = not_integers() + [-2, 2, 3, HUGE, -HUGE]
    laps = [picture((0,)), picture((0, 0))]
    wrong = [thing for thing in not_integers() if picture(thing) not in laps]
    wrong += [0, 1, -1, (), [-1], [0], [0, 1], "- 0", "0", ((0,),), ((-1,), (0,)), nested(20), (TWO,), {0: 0}]
    wrong += [(thing,) for thing in items] + list(with_each_item_replaced((0, -1, 1), items))
    return wrong + [(0,) * 3900 + (2,), (True,) * 2000, [0] * 2000]


def not_worths():
    """Return values that are no worths for a line of two works, of every kind and wrong in every place."""
    items = not_integers() + [-1, 21, 22, HUGE, -HUGE, -20]
    wrong = not_integers() + [0, 1, 20, (), (1,), (0, 0), (1, 1, 1), (0, 0, 0), [1, 1], [1, 0], {0: 1, 1: 1}, "1 1"]
    wrong += [((1, 1),), ((1,), (1,)), nested(20), (TWO, TWO), (1,) * 2000, (-1, 1), (20, -20), (21, 0), (0, 21)]
    return wrong + list(with_each_item_replaced((1, 2), items)) + list(with_each_item_replaced((20, 0), items))


class Fits(Case):

    def test_of_the_session(self):
        self.gives(True, fits, ONE, (-1, -1, -1, 0, -1, -1, 0))
        self.gives(True, fits, ONE, (0, -1, -1, 0, -1, -1, -1))
        self.gives(True, fits, ONE, (0, -1, 0, -1, 0, -1, -1, -1, -1, -1, -1))
        self.gives(False, fits, ONE, (0, -1, -1, 0, -1, -1))
        self.gives(False, fits, ONE, (0, -1, 0, -1, 0, -1, -1, -1, -1, -1))

    def test_without_starts(self):
        for line in (ONE, TWO, THREE, FAR_THREE, Line(LONGEST)):
            for ticks in (1, 2, 7, 60, 3000):
                self.gives(True, fits, line, (-1,) * ticks)

    def test_of_one_item(self):
        self.gives(True, fits, ONE, (-1,))
        self.gives(False, fits, ONE, (0,))
        self.gives(True, fits, Line((0,)), (0,))
        self.gives(True, fits, THREE, (0,))
        self.gives(False, fits, THREE, (1,))
        self.gives(False, fits, THREE, (2,))
        self.gives(False, fits, Line(two_visits(3, 59)), (0,))

    def test_a_start_with_itself(self):
        line = Line(two_visits(3, 6))
        for ticks in range(1, 20):
            self.gives(6 % ticks != 0, fits, line, (-1,) * (ticks - 1) + (0,))

    def test_several_laps_apart(self):
        line = Line((0, 1, 2, 3, 4, 6, 7, 5), (5,))
        self.same(line(0, 1), (7,))
        self.gives(False, fits, line, (0, 1))
        self.gives(True, fits, line, (0, -1, 1))
        self.gives(False, fits, line, (0, -1, -1, 1))
        for ticks in range(2, 12):
            for at in range(1, ticks):
                lap = [-1] * ticks
                lap[0], lap[at] = 0, 1
                self.gives(lap_fits(line, lap), fits, line, tuple(lap))

    def test_kinds_in_both_orders(self):
        line = Line((0, 1, 2), (2,))
        self.gives(True, fits, line, (0, 1, -1, -1))
        self.gives(False, fits, line, (0, -1, 1, -1, -1))
        self.gives(True, fits, line, (1, -1, 0, -1, -1))
        self.gives(False, fits, line, (1, -1, 0, -1))

    def test_all_short_laps(self):
        lines = [ONE, TWO, THREE, FAR_THREE] + near_lines(401, 25)
        lines += [Line(*random_works(at, 1 + at % 3, 20, 3)) for at in range(25)]
        found = set()
        for line in lines:
            for ticks in range(1, 6 if len(line.works) < 3 else 5):
                for lap in itertools.product(range(-1, len(line.works)), repeat=ticks):
                    expected = lap_fits(line, lap)
                    found.add(expected)
                    self.same(fits_by_bars(line, lap), expected)
                    self.gives(expected, fits, line, lap)
        self.assertEqual(found, {True, False})

    def test_long_laps(self):
        chance = random.Random(402)
        found = set()
        for at in range(300):
            line = Line(*random_works(at, 1 + at % 3, chance.randint(2, 40), 10))
            lap = tuple(chance.choice([-1] * 9 + list(range(len(line.works)))) for _ in range(chance.randint(6, 90)))
            found.add(lap_fits(line, lap))
            self.gives(lap_fits(line, lap), fits, line, lap)
        self.assertEqual(found, {True, False})
        self.gives(True, fits, Line(two_visits(3, 59)), (0, -1) * 2000)
        self.gives(False, fits, Line(two_visits(3, 58)), (0, -1) * 2000)

    def test_a_lap_twice_fits_as_well(self):
        for line in near_lines(403, 25):
            for lap in itertools.product(range(-1, len(line.works)), repeat=3):
                self.gives(fits(line, lap), fits, line, lap * 2)
                self.gives(fits(line, lap), fits, line, lap[1:] + lap[:1])

    def test_pieces_of_a_lap_that_fits_never_clash(self):
        for line in [ONE, TWO, THREE] + near_lines(404, 30):
            for lap in itertools.product(range(-1, len(line.works)), repeat=3):
                if fits(line, lap):
                    self.same(clash(line, plan_of(lap)), None)
                    state = ((),) * len(line.works)
                    for choice in lap * 4:
                        self.assertIn(choice, choices(line, state))
                        state = after(line, state, choice)
                else:
                    self.assertIsNotNone(clash(line, plan_of(lap)))

    def test_wrong_lap(self):
        for thing in not_laps():
            self.refuses(NoLap, fits, TWO, thing)

    def test_kinds_of_the_line(self):
        for line in (ONE, TWO, THREE):
            for kind in range(-3, 6):
                if not -1 <= kind < len(line.works):
                    self.refuses(NoLap, fits, line, (kind,))
                    self.refuses(NoLap, fits, line, (-1, kind, -1))

    def test_wrong_line(self):
        for thing in not_lines():
            self.refuses(NoLine, fits, thing, (-1,))
            self.refuses(NoLine, fits, thing, None)

    def test_named(self):
        self.gives(True, fits, line=ONE, lap=(-1,))
        self.gives(False, fits, lap=(0,), line=ONE)
        self.refuses(NoLap, fits, ONE, lap=[])


class Mean(Case):

    def test_fractions(self):
        self.gives((2, 7), mean, ONE, (-1, -1, -1, 0, -1, -1, 0), (1,))
        self.gives((40, 7), mean, ONE, (-1, -1, -1, 0, -1, -1, 0), (20,))
        self.gives((1, 1), mean, ONE, (0,), (1,))
        self.gives((20, 1), mean, ONE, (0, 0, 0), (20,))
        self.gives((1, 2), mean, TWO, (0, -1), (1, 7))
        self.gives((7, 2), mean, TWO, (1, -1), (1, 7))

    def test_without_common_factors(self):
        self.gives((1, 2), mean, ONE, (0, -1, 0, -1), (1,))
        self.gives((3, 2), mean, ONE, (0, -1, 0, -1), (3,))
        self.gives((5, 1), mean, TWO, (0, 0, 1, -1), (5, 10))
        self.gives((10, 3), mean, TWO, (0, 0, 1, -1, -1, -1), (5, 10))

    def test_no_starts(self):
        for ticks in (1, 2, 6, 3000):
            self.gives((0, 1), mean, ONE, (-1,) * ticks, (20,))
            self.gives((0, 1), mean, THREE, (-1,) * ticks, (1, 2, 3))

    def test_of_one_item(self):
        self.gives((0, 1), mean, TWO, (-1,), (4, 9))
        self.gives((4, 1), mean, TWO, (0,), (4, 9))
        self.gives((9, 1), mean, TWO, (1,), (4, 9))

    def test_kinds_that_are_worth_nothing(self):
        self.gives((0, 1), mean, TWO, (0, 0, 0), (0, 9))
        self.gives((0, 1), mean, TWO, (1, -1), (9, 0))
        self.gives((3, 1), mean, TWO, (0, 0, 1), (0, 9))
        self.gives((1, 3), mean, THREE, (0, 1, 2), (0, 1, 0))
        self.gives((1, 3), mean, THREE, (0, 1, 2), (0, 0, 1))

    def test_a_lap_need_not_fit(self):
        self.assertFalse(fits(ONE, (0,)))
        self.gives((1, 1), mean, ONE, (0,), (1,))

    def test_other_laps(self):
        chance = random.Random(405)
        for line in near_lines(405, 60) + [Line(LONGEST, (0,) * 60)]:
            worths = (20,) + tuple(chance.randint(0, 20) for _ in line.works[1:])
            lap = tuple(chance.randint(-1, len(line.works) - 1) for _ in range(chance.randint(1, 30)))
            total = sum((0, *worths)[kind + 1] for kind in lap)
            top, bottom = mean(line, lap, worths)
            self.same(top * len(lap), bottom * total)
            for factor in range(2, 31):
                self.assertFalse(top % factor == 0 and bottom % factor == 0)
            self.assertGreaterEqual(bottom, 1)
            self.gives((top, bottom), mean, line, lap * 3, worths)

    def test_worths_from_0_to_20(self):
        for worth in range(-3, 25):
            if 1 <= worth <= 20:
                self.gives((worth, 1), mean, ONE, (0,), (worth,))
            else:
                self.refuses(NoWorths, mean, ONE, (0,), (worth,))
            if 0 <= worth <= 20:
                self.gives((worth, 1), mean, TWO, (1,), (1, worth))

    def test_long_laps(self):
        self.gives((20, 1), mean, ONE, (0,) * 4000, (20,))
        self.gives((1, 4000), mean, ONE, (0,) + (-1,) * 3999, (1,))

    def test_wrong_worths(self):
        for thing in not_worths():
            self.refuses(NoWorths, mean, TWO, (0, -1), thing)

    def test_not_all_0(self):
        for line in (ONE, TWO, THREE):
            self.refuses(NoWorths, mean, line, (-1,), (0,) * len(line.works))

    def test_as_many_as_kinds(self):
        for line in (ONE, TWO, THREE):
            for amount in range(6):
                if amount != len(line.works):
                    self.refuses(NoWorths, mean, line, (-1,), (1,) * amount)

    def test_wrong_lap(self):
        for thing in not_laps():
            self.refuses(NoLap, mean, TWO, thing, (1, 1))
            self.refuses(NoLap, mean, TWO, thing, (0, 0))
            self.refuses(NoLap, mean, TWO, thing, None)

    def test_wrong_line(self):
        for thing in not_lines():
            self.refuses(NoLine, mean, thing, (-1,), (1,))
            self.refuses(NoLine, mean, thing, None, (1,))
            self.refuses(NoLine, mean, thing, None, None)

    def test_named(self):
        self.gives((3, 2), mean, line=ONE, lap=(0, -1), worths=(3,))
        self.gives((3, 2), mean, worths=(3,), lap=(0, -1), line=ONE)
        self.refuses(NoWorths, mean, ONE, worths=[3], lap=(0, -1))


class Bars(Case):

    def test_a_work_backwards_lets_the_same_laps_fit(self):
        for work in small_works(5, 2):
            for lap in itertools.product((-1, 0), repeat=4):
                self.same(fits(Line(work[::-1]), lap), fits(Line(work), lap))


if __name__ == "__main__":
    unittest.main()
