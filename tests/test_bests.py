"""Points [41] and [42], and what [130] says of best means."""

import fractions
import itertools
import math
import random
import time
import unittest

from startgaps.bests import best, prices, shows_best
from startgaps.errors import GapError, NoLine, NoWorths, TooFar
from startgaps.laps import fits, mean
from startgaps.lines import Line
from startgaps.plans import clash
from startgaps.states import after, choices, states
from tests.oracles import (
    best_short_lap, edges_by_pieces, is_shown, lap_fits, lap_mean, open_starts, states_by_choices,
)
from tests.samples import (
    FAR_ONE, FAR_THREE, FAR_TWO, HUGE, WORK, Case, near_lines, nested, not_integers, not_lines, picture,
    random_worths, too_far_lines, two_visits, value, with_each_item_replaced, work_with_bars,
)
from tests.test_laps import not_laps, not_worths, plan_of

ONE = Line(WORK)
TWO = Line((0, 0), (1, -1, 1))
FREE = Line((0,), (1,), (2,))
LAP = (-1, -1, -1, 0, -1, -1, 0)


def priced(line, worths):
    """Return the pair of the best lap and its prices."""
    return best(line, worths)[1], prices(line, worths)


class Best(Case):

    def test_of_the_session(self):
        self.gives(((2, 7), LAP), best, ONE, (1,))

    def test_small(self):
        self.gives(((1, 1), (0,)), best, Line((3,)), (1,))
        self.gives(((20, 1), (0,)), best, Line((3, 4, 5)), (20,))
        self.gives(((1, 2), (-1, 0)), best, Line((3, 3)), (1,))
        self.gives(((1, 3), (-1, -1, 0)), best, Line((3, 3, 3)), (1,))
        self.gives(((1, 2), (-1, -1, 0, 0)), best, Line(two_visits(3, 2)), (1,))
        self.gives(((1, 2), (-1, 0)), best, Line(two_visits(3, 3)), (1,))

    def test_the_smallest_of_the_shortest(self):
        self.gives(((4, 1), (0,)), best, FREE, (4, 4, 4))
        self.gives(((4, 1), (1,)), best, FREE, (3, 4, 4))
        self.gives(((4, 1), (2,)), best, FREE, (0, 3, 4))
        self.gives(((4, 5), (-1, 0, 1, 1, 0)), best, TWO, (1, 1))
        self.gives(((1, 1), (0, 1)), best, FAR_THREE, (1, 1, 1))
        self.gives(((1, 1), (1, 2)), best, FAR_THREE, (0, 1, 1))

    def test_worths_of_0_for_some_kinds(self):
        self.gives(((1, 2), (-1, 0)), best, TWO, (1, 0))
        self.gives(((1, 2), (-1, -1, 1, 1)), best, TWO, (0, 1))
        self.gives(((1, 2), (-1, 2)), best, FAR_THREE, (0, 0, 1))
        self.gives(((7, 1), (1,)), best, FREE, (0, 7, 0))

    def test_kinds_that_help_each_other(self):
        self.gives(((3, 2), (0, 1)), best, Line((0, 0), (1, 1)), (1, 2))
        self.gives(((10, 1), (-1, 0)), best, Line((0, 0), (0, 0)), (20, 1))
        self.gives(((10, 1), (-1, 0)), best, Line((0, 0), (0, 0)), (20, 20))

    def test_the_lap_fits_and_has_the_mean(self):
        chance = random.Random(501)
        for line in near_lines(501, 150) + [ONE, TWO, FREE, FAR_ONE, FAR_TWO, FAR_THREE]:
            worths = random_worths(chance, line)
            most, lap = best(line, worths)
            self.gives(True, fits, line, lap)
            self.assertTrue(lap_fits(line, lap))
            self.gives(most, mean, line, lap, worths)
            self.assertEqual(lap_mean(lap, worths), value(most))

    def test_against_all_laps_where_there_are_few_states(self):
        # The best mean is that of a lap that comes to no state twice, so it is not longer than there are states.
        chance = random.Random(502)
        tried = 0
        for line in near_lines(502, 400):
            amount, longest = len(states_by_choices(line)), {1: 9, 2: 6, 3: 5}[len(line.works)]
            if 1 < amount <= longest:
                worths = random_worths(chance, line)
                self.gives(best_short_lap(line, worths, amount), best, line, worths)
                tried += 1
        self.assertGreater(tried, 60)

    def test_against_short_laps(self):
        chance = random.Random(503)
        same = 0
        for line in near_lines(503, 60) + [ONE, TWO, FAR_ONE]:
            longest = {1: 10, 2: 6, 3: 5}[len(line.works)]
            worths = random_worths(chance, line)
            (most, lap), (short_most, short_lap) = best(line, worths), best_short_lap(line, worths, longest)
            if len(lap) <= longest:
                self.same((most, lap), (short_most, short_lap))
                same += 1
            else:
                self.assertGreater(value(most), value(short_most))
        self.assertGreater(same, 30)

    def test_bars_of_all_kinds(self):
        for amount in range(4):
            for distances in itertools.combinations(range(1, 6), amount):
                line = Line(work_with_bars(distances))
                self.same(line(0, 0), distances)
                most, lap = best(line, (1,))
                if len(lap) <= 11:
                    self.same((most, lap), best_short_lap(line, (1,), len(lap)))

    def test_the_farthest_lines(self):
        began = time.perf_counter()
        lap = (-1,) * 8 + (0,) * 8
        self.gives(((1, 2), lap), best, FAR_ONE, (1,))
        self.gives(((10, 1), lap), best, FAR_ONE, (20,))
        self.gives(((1, 2), (-1, 0)), best, FAR_TWO, (1, 0))
        self.gives(((21, 2), (0, 1)), best, FAR_THREE, (20, 1, 0))
        for worths in ((1, 2, 3), (20, 19, 18), (7, 0, 5), (1, 20, 1), (3, 3, 2)):
            two = sorted(worths)[1:]
            self.same(best(FAR_THREE, worths)[0], fractions.Fraction(sum(two), 2).as_integer_ratio())
        self.assertLess(time.perf_counter() - began, 30)

    def test_too_far(self):
        for line, fields in too_far_lines():
            for call in (best, prices):
                self.refuses_too_far(fields, call, line, (1,) * len(line.works))
            self.refuses_too_far(fields, shows_best, line, (1,) * len(line.works), None)

    def test_as_far_as_the_limits_let(self):
        for line in (FAR_ONE, Line((1,) * 9), FAR_TWO, Line((1,) * 6, (2,)), FAR_THREE, Line((1,) * 6, (1,), (1,))):
            self.assertEqual(line.reach, 8 if len(line.works) == 1 else 5)
            worths = (1,) * len(line.works)
            self.gives(True, shows_best, line, worths, priced(line, worths))

    def test_wrong_worths(self):
        for thing in not_worths():
            self.refuses(NoWorths, best, TWO, thing)
            self.refuses(NoWorths, prices, TWO, thing)
            self.refuses(NoWorths, shows_best, TWO, thing, None)

    def test_wrong_worths_come_before_too_far(self):
        for line, _ in too_far_lines():
            for thing in (None, (), (0,) * len(line.works), [1] * len(line.works), (True,) * len(line.works), (21,)):
                self.refuses(NoWorths, best, line, thing)
                self.refuses(NoWorths, prices, line, thing)
                self.refuses(NoWorths, shows_best, line, thing, ())

    def test_wrong_line(self):
        for thing in not_lines():
            for worths in ((1,), None):
                self.refuses(NoLine, best, thing, worths)
                self.refuses(NoLine, prices, thing, worths)
                self.refuses(NoLine, shows_best, thing, worths, ((-1,), (0,)))

    def test_named(self):
        self.gives(((2, 7), LAP), best, line=ONE, worths=(1,))
        self.gives(((2, 7), LAP), best, worths=(1,), line=ONE)
        self.refuses(NoWorths, best, ONE, worths=[1])


class Prices(Case):

    def test_one_for_each_state(self):
        chance = random.Random(511)
        for line in near_lines(511, 80) + [FAR_ONE, FAR_TWO, FAR_THREE]:
            worths = random_worths(chance, line)
            found = prices(line, worths)
            self.gives(found, prices, line, worths)
            self.same((type(found), len(found)), (tuple, len(states(line))))
            self.assertEqual({type(price) for price in found}, {int})

    def test_they_show_the_lap_of_best(self):
        chance = random.Random(512)
        for line in near_lines(512, 150) + [ONE, TWO, FREE, FAR_ONE, FAR_TWO]:
            worths = random_worths(chance, line)
            lap, found = priced(line, worths)
            self.assertTrue(is_shown(line, worths, lap, found))
            self.gives(True, shows_best, line, worths, (lap, found))
        for worths in ((1, 1, 1), (20, 7, 0), (0, 0, 1)):
            self.gives(True, shows_best, FAR_THREE, worths, priced(FAR_THREE, worths))

    def test_of_the_session(self):
        self.assertTrue(is_shown(ONE, (1,), LAP, prices(ONE, (1,))))

    def test_added_up_along_a_lap(self):
        # Each lap that fits has no greater mean: this is what prices show.
        for line, worths in ((ONE, (3,)), (TWO, (3, 2)), (Line((1, 1, -1, 1), (2, -1, -1, 1)), (5, 4))):
            top, bottom = best(line, worths)[0]
            price = dict(zip(states(line), prices(line, worths)))
            chance = random.Random(513)
            state = ((),) * len(line.works)
            for _ in range(400):
                choice = chance.choice(choices(line, state))
                behind = after(line, state, choice)
                worth = 0 if choice == -1 else worths[choice]
                self.assertLessEqual(bottom * worth - top, price[behind] - price[state])
                state = behind

    def test_named(self):
        self.gives(True, shows_best, ONE, (1,), (LAP, prices(line=ONE, worths=(1,))))
        self.gives(prices(ONE, (1,)), prices, worths=(1,), line=ONE)
        self.refuses(NoWorths, prices, ONE, worths=None)


class ShowsBest(Case):

    def test_any_lap_with_the_mean(self):
        lap, found = priced(ONE, (1,))
        for turn in range(7):
            turned = lap[turn:] + lap[:turn]
            self.gives(True, shows_best, ONE, (1,), (turned, found))
            self.gives(True, shows_best, ONE, (1,), (turned * 3, found))
        self.gives(True, shows_best, ONE, (1,), (lap * 500, found))
        self.gives(True, shows_best, FREE, (4, 4, 4), ((2, 1, 0, 0), (0,)))
        self.gives(False, shows_best, FREE, (4, 4, 3), ((2, 1, 0, 0), (0,)))

    def test_a_lap_that_is_not_best(self):
        _, found = priced(ONE, (1,))
        for lap in ((-1,), (0,) + (-1,) * 6, (0, -1, 0, -1, 0, -1, -1, -1, -1, -1, -1), (0, -1, -1, -1)):
            self.assertTrue(fits(ONE, lap))
            self.gives(False, shows_best, ONE, (1,), (lap, found))
            self.gives(False, shows_best, ONE, (1,), (lap, (0,) * len(found)))
        # The mean of starts as soon as possible is less, whatever the prices are.
        chance = random.Random(521)
        for _ in range(200):
            tried = tuple(chance.randint(-30, 30) for _ in found)
            self.gives(False, shows_best, ONE, (1,), ((0, -1, 0, -1, 0, -1, -1, -1, -1, -1, -1), tried))

    def test_a_lap_that_does_not_fit(self):
        _, found = priced(ONE, (1,))
        for lap in ((0,), (0, -1), (0, -1, -1, 0, -1, -1), (0, 0, -1, -1, -1, -1, -1), LAP[:-1], (0, -1, -1)):
            self.assertFalse(fits(ONE, lap))
            self.gives(False, shows_best, ONE, (1,), (lap, found))
        # Its mean is that of the best lap, but two of its starts clash.
        self.gives(False, shows_best, ONE, (1,), ((0, 0, -1, -1, -1, -1, -1), found))

    def test_prices_may_be_higher_by_any_number(self):
        lap, found = priced(ONE, (1,))
        for more in (1, -1, 10 ** 12, -HUGE, 10 ** 30):
            self.gives(True, shows_best, ONE, (1,), (lap, tuple(price + more for price in found)))

    def test_each_single_price_changed(self):
        chance = random.Random(522)
        found = set()
        for line in [ONE, TWO] + near_lines(522, 30):
            worths = random_worths(chance, line)
            lap, known = priced(line, worths)
            edges = edges_by_pieces(line)
            for at in range(len(known)):
                for more in (-3, -1, 1, HUGE):
                    tried = known[:at] + (known[at] + more,) + known[at + 1:]
                    expected = is_shown(line, worths, lap, tried, edges)
                    found.add(expected)
                    self.gives(expected, shows_best, line, worths, (lap, tried))
        self.assertEqual(found, {True, False})

    def test_prices_by_the_mean_without_common_factors(self):
        # Twice the prices are not prices by the mean (1, 2), which (2, 4) would be.
        line = Line((3, 3))
        self.gives(True, shows_best, line, (1,), ((-1, 0), (0, 1)))
        self.gives(True, shows_best, line, (1,), ((-1, 0, -1, 0), (0, 1)))
        self.gives(False, shows_best, line, (1,), ((-1, 0), (0, 2)))
        self.gives(False, shows_best, line, (1,), ((-1, 0, -1, 0), (0, 2)))
        self.gives(False, shows_best, line, (1,), ((-1, 0), (0, 0)))

    def test_equal_is_enough(self):
        # 2 * 1 - 1 is at most 1 - 0, and 2 * 0 - 1 at most 0 - 1 and 0 - 0.
        line = Line((3, 3))
        for first, second in itertools.product(range(-3, 4), repeat=2):
            self.gives(second - first == 1, shows_best, line, (1,), ((0, -1), (first, second)))

    def test_amounts_of_prices(self):
        lap, found = priced(ONE, (1,))
        for wrong in ((), found[:-1], found[1:], found + (0,), found + found, found[:1], found * 50):
            self.gives(False, shows_best, ONE, (1,), (lap, wrong))

    def test_prices_in_another_order(self):
        lap, found = priced(ONE, (1,))
        self.gives(is_shown(ONE, (1,), lap, found[::-1]), shows_best, ONE, (1,), (lap, found[::-1]))
        self.assertFalse(is_shown(ONE, (1,), lap, found[::-1]))

    def test_prices_that_are_no_integers(self):
        lap, found = priced(ONE, (1,))
        for at in (0, len(found) // 2, len(found) - 1):
            for thing in not_integers():
                self.gives(False, shows_best, ONE, (1,), (lap, found[:at] + (thing,) + found[at + 1:]))
        line = Line((3, 3))
        for wrong in ((0, True), (False, 1), (False, True), [0, 1], {0: 1}, ((0, 1),), ("0", "1"), 0, None):
            self.gives(False, shows_best, line, (1,), ((-1, 0), wrong))

    def test_bools_in_a_lap(self):
        line = Line((3,), (4,))
        self.gives(True, shows_best, line, (1, 1), ((0, 1), (0,)))
        for lap in ((False, 1), (0, True), (False, True), [0, 1], (0, 1, None), (True,), (False,)):
            self.gives(False, shows_best, line, (1, 1), (lap, (0,)))
        self.gives(False, shows_best, line, (1, 1), ((0, 1), (False,)))

    def test_no_laps(self):
        found = prices(TWO, (1, 1))
        self.gives(True, shows_best, TWO, (1, 1), ((-1, 0, 1, 1, 0), found))
        for thing in not_laps():
            self.gives(False, shows_best, TWO, (1, 1), (thing, found))

    def test_parts_in_a_wrong_place(self):
        lap, found = priced(ONE, (1,))
        for wrong in ((found, lap), (lap, lap), (found, found), (lap,), (found,), (lap, found, ()), ((lap, found),),
                      lap + found, [lap, found], (list(lap), found), (lap, list(found)), ((lap,), (found,)), (),
                      {lap: found}, {0: lap, 1: found}, lap, found, best(ONE, (1,)), (best(ONE, (1,)), found),
                      ((lap, found), None), (None, found), (lap, None), (ONE, found), (lap, ONE)):
            self.gives(False, shows_best, ONE, (1,), wrong)

    def test_any_value(self):
        things = not_integers() + [0, 1, -1, HUGE, nested(20), [nested(19)], (nested(19), nested(19)), (0,) * 4000,
                                   [0] * 4000, ((0,) * 2000, (0,) * 2000), ((-1,) * 3990, (0,)), "x" * 2000, ONE,
                                   GapError("x"), TooFar(9, 8), ([], ()), ((), []), ((), ()), ({}, {}), (None, None)]
        for line, worths in ((ONE, (1,)), (TWO, (0, 3)), (FAR_THREE, (1, 2, 3))):
            for thing in things:
                self.gives(False, shows_best, line, worths, thing)
        lap, found = priced(ONE, (1,))
        for wrong in with_each_item_replaced((lap, found), things):
            self.gives(False, shows_best, ONE, (1,), wrong)

    def test_for_other_worths(self):
        lap, found = priced(ONE, (1,))
        self.gives(False, shows_best, ONE, (2,), (lap, found))
        self.gives(True, shows_best, ONE, (2,), (lap, tuple(2 * price for price in found)))
        self.gives(False, shows_best, TWO, (1, 2), priced(TWO, (2, 1)))

    def test_named(self):
        self.gives(True, shows_best, line=Line((3,)), worths=(1,), thing=((0,), (5,)))
        self.gives(False, shows_best, thing=((-1,), (5,)), worths=(1,), line=Line((3,)))
        self.refuses(NoWorths, shows_best, ONE, (0,), thing=None)


class WhatHolds(Case):

    def test_added_worths(self):
        chance = random.Random(531)
        for line in near_lines(531, 100) + [TWO, FAR_TWO]:
            one, other = (tuple(worth // 2 for worth in random_worths(chance, line)) for _ in range(2))
            if any(one) and any(other):
                both = tuple(map(sum, zip(one, other)))
                self.assertLessEqual(value(best(line, both)[0]),
                                     value(best(line, one)[0]) + value(best(line, other)[0]))

    def test_worths_times_a_number(self):
        chance = random.Random(532)
        for line in near_lines(532, 60) + [ONE, TWO, FAR_ONE]:
            worths = tuple(chance.randint(0, 4) for _ in line.works[1:]) + (chance.randint(1, 4),)
            most, lap = best(line, worths)
            for times in (2, 3, 5):
                more = (value(most) * times).as_integer_ratio()
                self.gives((more, lap), best, line, tuple(times * worth for worth in worths))

    def test_a_work_added(self):
        chance = random.Random(533)
        tried = 0
        for line, other in zip(near_lines(533, 300, 5), near_lines(534, 300, 5)):
            if len(line.works) + len(other.works) <= 3 and (line + other).reach <= 5:
                worths = random_worths(chance, line)
                added = tuple(chance.choice([0, 1, 20]) for _ in other.works)
                self.assertGreaterEqual(value(best(line + other, worths + added)[0]), value(best(line, worths)[0]))
                self.assertGreaterEqual(value(best(other + line, added + worths)[0]), value(best(line, worths)[0]))
                tried += 1
        self.assertGreater(tried, 50)

    def test_two_bars(self):
        for one, other in itertools.combinations(range(1, 9), 2):
            if math.gcd(one, other) == 1:
                line = Line(work_with_bars((one, other)))
                self.same(line(0, 0), (one, other))
                both_odd = one % 2 == 1 and other % 2 == 1
                gap = 2 if both_odd else fractions.Fraction(2 * (one + other), one + other - 1)
                self.assertEqual(1 / value(best(line, (1,))[0]), gap)

    def test_bars_times_a_number(self):
        for distances in ((1,), (2,), (1, 2), (1, 4), (2, 3), (1, 3, 4), (3, 4), (1, 2, 4)):
            known = best(Line(work_with_bars(distances)), (1,))[0]
            for times in range(2, 8 // distances[-1] + 1):
                line = Line(work_with_bars([times * distance for distance in distances]))
                self.assertEqual(best(line, (1,))[0], known)

    def test_laps_of_best_are_full(self):
        chance = random.Random(535)
        for line in near_lines(535, 100) + [ONE, TWO, FREE, FAR_ONE, FAR_TWO, FAR_THREE]:
            worths = tuple(chance.randint(1, 20) for _ in line.works)
            self.same(open_starts(line, best(line, worths)[1]), [])

    def test_pieces_of_the_lap_never_clash(self):
        chance = random.Random(536)
        for line in near_lines(536, 60):
            lap = best(line, random_worths(chance, line))[1]
            self.same(clash(line, plan_of(lap)), None)

    def test_backwards(self):
        for line in near_lines(537, 60):
            if len(line.works) == 1:
                self.same(best(-line, (3,)), best(line, (3,)))


if __name__ == "__main__":
    unittest.main()
