"""Point [80]: what can be had of two works at once."""

import fractions
import itertools
import random
import time
import unittest

from startgaps.bests import best
from startgaps.errors import GapError, NoLine, NoRate, NotTwo, TooFar
from startgaps.laps import fits
from startgaps.lines import Line
from startgaps.rates import is_under, rates, shows_rates
from tests.oracles import corners_of, is_under_line, lap_fits, lap_rate, short_rates, states_by_choices
from tests.samples import (
    FAR_ONE, FAR_THREE, FAR_TWO, HUGE, WORK, Case, near_lines, nested, not_integers, not_lines, picture, too_far_lines,
    two_visits, value, with_each_item_replaced,
)

TWO = Line((0, 0), (1, -1, 1))
SAME = Line((3, 3), (3, 3))
FREE = Line((0,), (1,))
CORNERS = (
    (((1, 4), (1, 2)), (-1, 0, 1, 1)),
    (((2, 5), (2, 5)), (-1, 0, 1, 1, 0)),
    (((1, 2), (1, 4)), (-1, 0, 1, 0)),
)
# These have more corners than most.
MANY = (Line((1, 0, 1), (2, 3, -1, -1, 3)), Line((3, 3, 1, 0), (1, -1, -1, 3, 2, 2)), Line((2, 2, 1), (0, 1, -1, -1, 1)))
NOT_TWO = (Line(WORK), Line((0,)), Line((0,), (1,), (2,)), FAR_ONE, FAR_THREE, Line(two_visits(0, 9)),
           Line((0,) * 60, (1,), (2,)))


def lines_of_two(seed, amount):
    """Return so many lines of two works."""
    return [line for line in near_lines(seed, 6 * amount) if len(line.works) == 2][:amount]


def pairs_near(corners):
    """Return pairs of fractions on the line through the corners, just off it, and elsewhere."""
    parts = {fractions.Fraction(0), fractions.Fraction(1), fractions.Fraction(1, 3), fractions.Fraction(5)}
    found = set(itertools.product(sorted(parts), repeat=2)) | set(corners)
    for one, other in zip(corners, corners[1:]):
        for share in (fractions.Fraction(1, 2), fractions.Fraction(1, 7)):
            found.add(tuple(a + (b - a) * share for a, b in zip(one, other)))
    off = fractions.Fraction(1, 10 ** 9)
    for x, y in list(found):
        found |= {(abs(x + dx), abs(y + dy)) for dx, dy in itertools.product((-off, 0, off), repeat=2)}
    return sorted(found)


def told(pair):
    """Return fractions of the library as those of the program."""
    return tuple(part.as_integer_ratio() for part in pair)


def not_fractions():
    """Return values that are no fractions, of every kind."""
    wrong = not_integers() + [0, 1, (1,), (1, 2, 3), [1, 2], (2, 4), (2, 2), (0, 2), (0, 0), (1, 0), (0, -1), (1, -1)]
    wrong += [(1, -2), (-1, -2), (5, 15), (10 ** 12, 10), (HUGE, HUGE), (0, HUGE), ((1, 2),), ((1,), (2,)), "1/2", "12"]
    wrong += [(True, 2), (1, True), (True, True), (False, 1), (0, True), (None, 2), (1, None), ("1", "2"), {1: 2}]
    return wrong + list(with_each_item_replaced((1, 2), not_integers()))


def not_rates():
    """Return values that are no pairs of fractions from 0 on, of every kind and wrong in every place."""
    good = ((1, 2), (1, 3))
    parts = not_fractions() + [(-1, 2), (-1, 1), (-HUGE, 2)]
    wrong = not_integers() + [0, (1, 2), (0, 1), ((1, 2),), good + ((1, 2),), [(1, 2), (1, 3)], [[1, 2], [1, 3]],
                              ([1, 2], [1, 3]), (good, good), (good,), {(1, 2): (1, 3)}, "1/2 1/3", nested(20),
                              ((0, 1),) * 2000, (TWO, TWO), ((1, 2), TWO), 1, None]
    return wrong + list(with_each_item_replaced(good, parts))


class Rates(Case):

    def test_two(self):
        self.gives(CORNERS, rates, TWO)

    def test_a_single_corner(self):
        self.gives(((((1, 2), (1, 2)), (0, 1)),), rates, Line((0, 0), (1, 1)))
        self.gives(((((1, 2), (1, 2)), (0, 1)),), rates, FAR_TWO)
        self.gives(((((1, 6), (1, 6)), (-1, -1, -1, -1, 0, 1)),), rates, Line((0,) * 6, (1,) * 6))

    def test_the_first_and_the_last_one(self):
        # Every second tick kind 1 is started; in those between, kind 0 could be left out.
        self.same(rates(Line((0, 0), (1, 1)))[0][0], ((1, 2), (1, 2)))
        for line in lines_of_two(1101, 25) + [TWO, SAME, FREE, *MANY]:
            first, last = rates(line)[0][0], rates(line)[-1][0]
            self.same(first[1], best(line, (0, 1))[0])
            self.same(last[0], best(line, (1, 0))[0])
            for x, y in short_rates(line, 6):
                if y == value(first[1]):
                    self.assertLessEqual(x, value(first[0]))
                if x == value(last[0]):
                    self.assertLessEqual(y, value(last[1]))

    def test_two_works_alike(self):
        self.gives(((((0, 1), (1, 2)), (-1, 1)), (((1, 2), (0, 1)), (-1, 0))), rates, SAME)
        self.gives(((((0, 1), (1, 1)), (1,)), (((1, 1), (0, 1)), (0,))), rates, Line((3,), (3,)))

    def test_without_bars(self):
        self.gives(((((0, 1), (1, 1)), (1,)), (((1, 1), (0, 1)), (0,))), rates, FREE)

    def test_many_corners(self):
        self.gives((
            (((0, 1), (1, 2)), (-1, 1)), (((1, 5), (2, 5)), (-1, -1, 1, 0, 1)), (((2, 5), (1, 5)), (-1, -1, 0, 1, 0)),
            (((1, 2), (0, 1)), (-1, 0)),
        ), rates, MANY[1])
        for line in MANY:
            self.assertEqual(len(rates(line)), 4)

    def test_against_all_laps_where_there_are_few_states(self):
        # A corner is had by a lap that comes to no state twice, so it is not longer than there are states.
        tried = 0
        for line in lines_of_two(1102, 150):
            amount = len(states_by_choices(line))
            if amount <= 7:
                laps = short_rates(line, amount)
                self.gives(tuple((told(rate), laps[rate]) for rate in corners_of(laps)), rates, line)
                tried += 1
        self.assertGreater(tried, 40)

    def test_against_short_laps(self):
        same = 0
        for line in lines_of_two(1103, 25) + [TWO, SAME, FREE, *MANY]:
            laps = short_rates(line, 7)
            corners = [(value(x), value(y)) for (x, y), _ in rates(line)]
            for pair in laps:
                self.assertTrue(is_under_line(corners, pair))
            for rate, lap in rates(line):
                if len(lap) <= 7:
                    self.same(laps[value(rate[0]), value(rate[1])], lap)
                    same += 1
        self.assertGreater(same, 50)

    def test_each_lap_fits_and_has_the_rate(self):
        for line in lines_of_two(1104, 150) + [TWO, SAME, FREE, FAR_TWO, *MANY]:
            for rate, lap in rates(line):
                self.gives(True, fits, line, lap)
                self.assertTrue(lap_fits(line, lap))
                self.same(told(lap_rate(lap)), rate)

    def test_each_corner_is_needed(self):
        amounts = set()
        for line in lines_of_two(1105, 200) + list(MANY):
            corners = [(value(x), value(y)) for (x, y), _ in rates(line)]
            amounts.add(len(corners))
            for (left, high), (right, low) in zip(corners, corners[1:]):
                self.assertLess(left, right)
                self.assertGreater(high, low)
            for at in range(1, len(corners) - 1):
                self.assertFalse(is_under_line(corners[:at] + corners[at + 1:], corners[at]))
        self.assertGreaterEqual(amounts, {1, 2, 3, 4})

    def test_no_worths_have_more(self):
        chance = random.Random(1106)
        for line in lines_of_two(1106, 100) + [TWO, *MANY]:
            for _ in range(4):
                worths = (chance.randint(0, 20), chance.randint(1, 20))
                most = max(worths[0] * value(x) + worths[1] * value(y) for (x, y), _ in rates(line))
                self.assertEqual(value(best(line, worths)[0]), most)

    def test_works_changed_about(self):
        for line in lines_of_two(1107, 60):
            other = Line(*line.works[::-1])
            self.same([rate[::-1] for rate, _ in rates(other)][::-1], [rate for rate, _ in rates(line)])

    def test_the_farthest_lines(self):
        began = time.perf_counter()
        for line in (FAR_TWO, Line(two_visits(4, 5), (2, -1, -1, 2, 3, 2)), Line((0, -1, -1, 0, -1, 0), two_visits(1, 5)),
                     Line((1,) * 6, (2,)), Line((1,) * 6, (1,) * 6)):
            self.assertEqual(line.reach, 5)
            found = rates(line)
            self.gives(True, shows_rates, line, found)
            self.gives(True, is_under, line, found[0][0])
        self.assertLess(time.perf_counter() - began, 30)


class IsUnder(Case):

    def test_two(self):
        for pair, expected in ((((2, 5), (2, 5)), True), (((1, 4), (1, 2)), True), (((1, 2), (1, 4)), True),
                               (((0, 1), (1, 2)), True), (((1, 2), (0, 1)), True), (((0, 1), (0, 1)), True),
                               (((3, 8), (2, 5)), True), (((41, 100), (2, 5)), False), (((13, 40), (9, 20)), True),
                               (((13, 40), (451, 1000)), False), (((0, 1), (501, 1000)), False),
                               (((501, 1000), (0, 1)), False), (((1, 1), (0, 1)), False), (((1, 2), (1, 2)), False)):
            self.gives(expected, is_under, TWO, pair)

    def test_no_starts(self):
        for line in lines_of_two(1111, 60):
            self.gives(True, is_under, line, ((0, 1), (0, 1)))

    def test_a_single_corner(self):
        line = Line((0, 0), (1, 1))
        for x, y in itertools.product(range(13), repeat=2):
            pair = told((fractions.Fraction(x, 12), fractions.Fraction(y, 12)))
            self.gives(x <= 6 and y <= 6, is_under, line, pair)

    def test_on_the_line_and_off_it(self):
        found = set()
        for line in lines_of_two(1112, 60) + [TWO, SAME, FREE, *MANY]:
            corners = [(value(x), value(y)) for (x, y), _ in rates(line)]
            for pair in pairs_near(corners):
                expected = is_under_line(corners, pair)
                found.add(expected)
                self.same(is_under(line, told(pair)), expected)
        self.assertEqual(found, {True, False})

    def test_laps_one_after_another(self):
        # What two laps have by turns, again and again, is under the line, in any shares.
        for line in lines_of_two(1113, 40):
            found = [lap_rate(lap) for _, lap in rates(line)] + [(fractions.Fraction(0),) * 2]
            for one, other in itertools.product(found, repeat=2):
                for share in (fractions.Fraction(1, 3), fractions.Fraction(1, 10 ** 12)):
                    self.gives(True, is_under, line, told(tuple(a + (b - a) * share for a, b in zip(one, other))))

    def test_great_numbers(self):
        self.gives(True, is_under, TWO, ((4 * 10 ** 11, 10 ** 12 + 1), (2, 5)))
        self.gives(False, is_under, TWO, ((4 * 10 ** 11 + 1, 10 ** 12), (2, 5)))
        self.gives(False, is_under, TWO, ((HUGE, 1), (0, 1)))
        self.gives(False, is_under, TWO, ((HUGE, 1), (HUGE, 1)))
        self.gives(True, is_under, TWO, ((1, HUGE), (1, HUGE)))

    def test_short_laps(self):
        for line in lines_of_two(1114, 15):
            for pair in short_rates(line, 5):
                self.gives(True, is_under, line, told(pair))

    def test_no_rate(self):
        self.gives(True, is_under, TWO, ((1, 4), (1, 3)))
        for thing in not_rates():
            self.refuses(NoRate, is_under, TWO, thing)

    def test_named(self):
        self.gives(True, is_under, line=TWO, pair=((2, 5), (2, 5)))
        self.gives(False, is_under, pair=((1, 2), (2, 5)), line=TWO)
        self.refuses(NoRate, is_under, TWO, pair=[(2, 5), (2, 5)])


class ShowsRates(Case):

    def test_what_rates_returns(self):
        for line in lines_of_two(1121, 100) + [TWO, SAME, FREE, FAR_TWO, *MANY]:
            self.gives(True, shows_rates, line, rates(line))

    def test_any_laps_with_the_rates(self):
        turned = tuple((rate, lap[2:] + lap[:2]) for rate, lap in CORNERS)
        longer = tuple((rate, lap * 3) for rate, lap in CORNERS)
        self.assertNotEqual(turned, CORNERS)
        self.gives(True, shows_rates, TWO, turned)
        self.gives(True, shows_rates, TWO, longer)
        self.gives(True, shows_rates, TWO, (CORNERS[0], turned[1], longer[2]))
        self.gives(True, shows_rates, FREE, ((((0, 1), (1, 1)), (1,) * 1900), (((1, 1), (0, 1)), (0,) * 1900)))

    def test_laps_that_do_not_fit(self):
        for lap in ((-1, 1, 0, 1, 0), (0, 0, 1, 1, -1)):
            self.same(told(lap_rate(lap)), ((2, 5), (2, 5)))
            self.assertFalse(fits(TWO, lap))
            self.gives(False, shows_rates, TWO, (CORNERS[0], (CORNERS[1][0], lap), CORNERS[2]))

    def test_laps_with_another_rate(self):
        for lap in ((-1,), (0, -1), (-1, 0, 1, 1), (-1, 0, 1, 0), (-1, -1, 0, 1)):
            self.assertTrue(fits(TWO, lap))
            self.gives(False, shows_rates, TWO, (CORNERS[0], (CORNERS[1][0], lap), CORNERS[2]))

    def test_rates_that_are_no_corners(self):
        under = (((1, 3), (1, 3)), (-1, 0, 1))
        on_the_line = (((13, 40), (9, 20)), CORNERS[0][1] * 5 + CORNERS[1][1] * 4)
        for wrong in (
                (CORNERS[0], CORNERS[2]), (CORNERS[0], CORNERS[1]), CORNERS[1:], CORNERS[:1], (CORNERS[0], under, CORNERS[2]),
                (*CORNERS, under), (CORNERS[0], on_the_line, *CORNERS[1:]), CORNERS[::-1], CORNERS + CORNERS,
                (CORNERS[1], CORNERS[0], CORNERS[2]), (CORNERS[0], *CORNERS), (CORNERS[0], CORNERS[0], CORNERS[2])):
            self.gives(False, shows_rates, TWO, wrong)

    def test_the_rate_must_be_told_in_lowest_terms(self):
        for rate in (((2, 8), (1, 2)), ((1, 4), (2, 4)), ((-1, -4), (1, 2)), ((1, 4), (-1, -2))):
            self.gives(False, shows_rates, TWO, ((rate, CORNERS[0][1]), *CORNERS[1:]))
        self.gives(True, shows_rates, SAME, ((((0, 1), (1, 2)), (1, -1)), (((1, 2), (0, 1)), (0, -1))))
        for zero in ((0, 2), (0, -1), (0, 0), (False, 1), (0, True), 0, (0,), None):
            self.gives(False, shows_rates, SAME, (((zero, (1, 2)), (1, -1)), (((1, 2), (0, 1)), (0, -1))))
            self.gives(False, shows_rates, SAME, ((((0, 1), (1, 2)), (1, -1)), (((1, 2), zero), (0, -1))))

    def test_bools_and_lists(self):
        good = ((((0, 1), (1, 1)), (1,)), (((1, 1), (0, 1)), (0,)))
        self.gives(True, shows_rates, FREE, good)
        for wrong in (((((0, 1), (1, 1)), (True,)), good[1]), (good[0], (((1, 1), (0, 1)), (False,))),
                      ((((0, True), (1, 1)), (1,)), good[1]), ((((False, 1), (1, 1)), (1,)), good[1]),
                      ((((0, 1), (True, 1)), (1,)), good[1]), ((((0, 1), (1, True)), (1,)), good[1]),
                      ((((0, 1), (1, 1)), [1]), good[1]), (([(0, 1), (1, 1)], (1,)), good[1]),
                      ((([0, 1], (1, 1)), (1,)), good[1]), ((((0, 1), [1, 1]), (1,)), good[1]),
                      ([((0, 1), (1, 1)), (1,)], good[1]), list(good), [list(good[0]), list(good[1])]):
            self.assertNotEqual(picture(wrong), picture(good))
            self.gives(False, shows_rates, FREE, wrong)

    def test_each_part_replaced(self):
        things = not_integers() + [0, 1, -1, (-1,), (0, 1), ((0, 1), (0, 1)), CORNERS, CORNERS[0], HUGE]
        for wrong in with_each_item_replaced(CORNERS, things[:-2] + [HUGE]):
            self.gives(False, shows_rates, TWO, wrong)
        for at in range(3):
            for part in with_each_item_replaced(CORNERS[at], things):
                self.gives(False, shows_rates, TWO, CORNERS[:at] + (part,) + CORNERS[at + 1:])
            for rate in with_each_item_replaced(CORNERS[at][0], things):
                self.gives(False, shows_rates, TWO, CORNERS[:at] + ((rate, CORNERS[at][1]),) + CORNERS[at + 1:])
            for longer in (CORNERS[at] + (0,), CORNERS[at][:1], CORNERS[at][::-1], (CORNERS[at],)):
                self.gives(False, shows_rates, TWO, CORNERS[:at] + (longer,) + CORNERS[at + 1:])

    def test_any_value(self):
        for thing in not_integers() + [
                0, 1, nested(20), [nested(19)], (0,) * 4000, [0] * 4000, "x" * 2000, CORNERS[0], CORNERS[0][0], (CORNERS,),
                (nested(19),) * 3, TWO, (TWO,) * 3, GapError("x"), {0: CORNERS}, ((), (), ()), ([], [], []), ({},) * 3,
                (((), ()),) * 3, ((((), ()), ()),) * 3, (None, None, None), TooFar(6, 5)]:
            for line in (TWO, SAME, FAR_TWO):
                self.gives(False, shows_rates, line, thing)

    def test_for_another_line(self):
        self.gives(False, shows_rates, SAME, CORNERS)
        self.gives(False, shows_rates, TWO, rates(SAME))
        self.gives(False, shows_rates, Line(*TWO.works[::-1]), CORNERS)

    def test_named(self):
        self.gives(True, shows_rates, line=TWO, thing=CORNERS)
        self.gives(False, shows_rates, thing=None, line=TWO)


class Refusals(Case):

    def test_too_far(self):
        for line, fields in too_far_lines():
            if len(line.works) == 2:
                self.refuses_too_far(fields, rates, line)
                for thing in (((0, 1), (0, 1)), None, ()):
                    self.refuses_too_far(fields, is_under, line, thing)
                    self.refuses_too_far(fields, shows_rates, line, thing)

    def test_not_two(self):
        for line in NOT_TWO:
            self.refuses(NotTwo, rates, line)
            for thing in (((0, 1), (0, 1)), None, CORNERS):
                self.refuses(NotTwo, is_under, line, thing)
                self.refuses(NotTwo, shows_rates, line, thing)

    def test_wrong_line(self):
        for thing in not_lines():
            self.refuses(NoLine, rates, thing)
            for other in (((0, 1), (0, 1)), None, CORNERS):
                self.refuses(NoLine, is_under, thing, other)
                self.refuses(NoLine, shows_rates, thing, other)

    def test_named(self):
        self.gives(CORNERS, rates, line=TWO)
        self.refuses(NotTwo, rates, line=FAR_ONE)


if __name__ == "__main__":
    unittest.main()
