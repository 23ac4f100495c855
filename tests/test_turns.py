"""Point [60]: kinds in turn."""

import fractions
import itertools
import random
import time
import unittest

from startgaps.bests import best
from startgaps.errors import NoKinds, NoLine, TooFar
from startgaps.laps import fits
from startgaps.lines import Line
from startgaps.orders import soonest
from startgaps.singles import gap
from startgaps.turns import in_turn
from tests.oracles import lap_fits, passes, shortest_turns
from tests.samples import (
    FAR_ONE, FAR_THREE, FAR_TWO, WORK, Case, near_lines, near_works, not_lines, too_far_lines, two_visits, value,
    with_each_item_replaced,
)
from tests.test_orders import not_kinds

ONE = Line(WORK)
TWO = Line((0, 0), (1, -1, 1))
FREE = Line((0,), (1,), (2,))
PAIR = Line((0, 0), (1, 1))
APART = Line((0,), (0,))
LONG_LAP = ((-1,) * 8 + (0,) * 8) * 3


def random_kinds(chance, line, most):
    return tuple(chance.randrange(len(line.works)) for _ in range(chance.randint(1, most)))


class InTurn(Case):

    def test_one_kind(self):
        self.gives(((7, 2), (-1, -1, -1, 0, -1, -1, 0)), in_turn, ONE, (0,))
        self.gives(((1, 1), (0,)), in_turn, Line((3,)), (0,))
        self.gives(((2, 1), (-1, 0)), in_turn, TWO, (0,))
        self.gives(((2, 1), (-1, -1, 1, 1)), in_turn, TWO, (1,))
        for kind in range(3):
            self.gives(((1, 1), (kind,)), in_turn, FREE, (kind,))

    def test_several_kinds(self):
        self.gives(((2, 1), (0, 1)), in_turn, PAIR, (0, 1))
        self.gives(((3, 1), (-1, 0, 1)), in_turn, TWO, (0, 1))
        self.gives(((3, 1), (0, 1, 2)), in_turn, FREE, (0, 1, 2))
        self.gives(((3, 1), (0, 2, 1)), in_turn, FREE, (0, 2, 1))

    def test_from_any_place_of_the_order_on(self):
        self.gives(((2, 1), (0, 1)), in_turn, PAIR, (1, 0))
        self.gives(((3, 1), (0, 2, 1)), in_turn, FREE, (2, 1, 0))
        self.gives(((3, 1), (0, 1, 2)), in_turn, FREE, (1, 2, 0))
        self.gives(((4, 1), (0, 0, 1, 2)), in_turn, FREE, (0, 1, 2, 0))

    def test_from_the_middle_of_the_order_on(self):
        # A piece of kind 1 is not started straight behind one of kind 0; so the smallest lap begins with this wait.
        line = Line((0, 1, 2), (1, 3))
        self.same((line(0, 1), line(1, 0)), ((1,), ()))
        self.gives(((3, 1), (-1, 1, 0)), in_turn, line, (0, 1))
        self.gives(((3, 1), (-1, 1, 0)), in_turn, line, (1, 0))
        self.gives(((6, 1), (-1, 0, 1, -1, 1, 0)), in_turn, PAIR, (0, 0, 1, 1))

    def test_only_whole_passes(self):
        # Twice the same kind in a pass: an odd number of starts is no whole pass.
        self.gives(((4, 1), (-1, 0, -1, 0)), in_turn, Line((3, 3)), (0, 0))
        self.gives(((7, 1), (-1, -1, -1, 0, -1, -1, 0)), in_turn, ONE, (0, 0))
        self.gives(((21, 2), (-1, -1, -1, 0, -1, -1, 0) * 3), in_turn, ONE, (0, 0, 0))
        self.gives(((6, 1), (0,) * 6), in_turn, Line((3,)), (0,) * 6)
        self.gives(((4, 1), (0, 1, 0, 1)), in_turn, PAIR, (0, 1, 0, 1))
        self.gives(((4, 1), (0, 1, 0, 1)), in_turn, PAIR, (1, 0, 1, 0))

    def test_kinds_in_this_order_only(self):
        self.gives(((4, 1), (0, 0, 1, 1)), in_turn, APART, (0, 0, 1, 1))
        self.gives(((4, 1), (0, 1, 0, 1)), in_turn, APART, (0, 1, 0, 1))
        self.gives(((4, 1), (0, 0, 1, 1)), in_turn, APART, (0, 1, 1, 0))
        self.gives(((6, 1), (0, 0, 1, 0, 1, 1)), in_turn, APART, (1, 1, 0, 0, 1, 0))

    def test_six_kinds(self):
        self.gives(((6, 1), (0, 1, 2, 0, 2, 1)), in_turn, FREE, (0, 1, 2, 0, 2, 1))
        self.gives(((6, 1), (0, 1, 2, 0, 2, 1)), in_turn, FREE, (0, 2, 1, 0, 1, 2))
        self.gives(((12, 1), LONG_LAP), in_turn, FAR_ONE, (0,) * 6)

    def test_not_all_kinds(self):
        self.gives(((2, 1), (0, 2)), in_turn, FREE, (2, 0))
        self.gives(((2, 1), (-1, 1)), in_turn, FAR_THREE, (1,))
        self.gives(((2, 1), (1, 2)), in_turn, FAR_THREE, (2, 1))

    def test_against_short_laps(self):
        chance = random.Random(901)
        same = 0
        for line in near_lines(901, 150) + [ONE, TWO, FREE, PAIR, APART]:
            longest = {1: 10, 2: 7, 3: 5}[len(line.works)]
            kinds = random_kinds(chance, line, 4)
            (most, lap), short = in_turn(line, kinds), shortest_turns(line, kinds, longest)
            if len(lap) <= longest:
                self.assertEqual((value(most), len(lap), lap), short)
                same += 1
            elif short:
                self.assertLess(value(most), short[0])
        self.assertGreater(same, 70)

    def test_the_lap_fits_and_has_the_mean(self):
        chance = random.Random(902)
        for line in near_lines(902, 200) + [ONE, TWO, FREE, FAR_ONE, FAR_TWO, FAR_THREE]:
            kinds = random_kinds(chance, line, 6)
            most, lap = in_turn(line, kinds)
            self.gives(True, fits, line, lap)
            self.assertTrue(lap_fits(line, lap))
            self.assertGreaterEqual(passes(lap, kinds), 1)
            self.same(fractions.Fraction(len(lap), passes(lap, kinds)).as_integer_ratio(), most)
            self.gives((most, lap), in_turn, line, kinds)

    def test_from_each_place_the_same(self):
        chance = random.Random(903)
        for line in near_lines(903, 80):
            kinds = random_kinds(chance, line, 6)
            for place in range(1, len(kinds)):
                self.gives(in_turn(line, kinds), in_turn, line, kinds[place:] + kinds[:place])

    def test_against_plans_of_some_passes(self):
        # So many passes and one start more come no sooner than the mean says for some place of the order; and some
        # passes can be repeated once the last piece bars nothing more.
        chance = random.Random(904)
        for line in near_lines(904, 80):
            kinds = random_kinds(chance, line, 4)
            most = value(in_turn(line, kinds)[0])
            amount = 11 // len(kinds)
            turned = [kinds[place:] + kinds[:place] for place in range(len(kinds))]
            ticks = [soonest(line, order * amount + order[:1])[-1][0] for order in turned]
            self.assertLessEqual(max(ticks), most * amount)
            self.assertLessEqual(most * amount, soonest(line, kinds * amount)[-1][0] + 1 + line.reach)

    def test_one_kind_in_turn_has_the_gap(self):
        for work in near_works(905, 60):
            line = Line(work)
            self.gives((gap(work), best(line, (1,))[1]), in_turn, line, (0,))
            for many in range(2, 7):
                self.assertEqual(value(in_turn(line, (0,) * many)[0]), many * value(gap(work)))

    def test_no_faster_than_the_best_for_any_order(self):
        chance = random.Random(906)
        for line in near_lines(906, 80):
            kinds = random_kinds(chance, line, 6)
            starts = len(kinds) / value(in_turn(line, kinds)[0])
            self.assertLessEqual(starts, value(best(line, (1,) * len(line.works))[0]))

    def test_the_farthest_lines(self):
        began = time.perf_counter()
        chance = random.Random(907)
        for line in (FAR_ONE, FAR_TWO, FAR_THREE):
            self.assertEqual(line.reach, 8 if line is FAR_ONE else 5)
            for _ in range(10):
                kinds = tuple(chance.randrange(len(line.works)) for _ in range(6))
                most, lap = in_turn(line, kinds)
                self.assertTrue(lap_fits(line, lap))
                self.same(fractions.Fraction(len(lap), passes(lap, kinds)).as_integer_ratio(), most)
        self.assertLess(time.perf_counter() - began, 30)


class Refusals(Case):

    def test_too_far(self):
        for line, fields in too_far_lines():
            self.refuses_too_far(fields, in_turn, line, (0,))
            self.refuses_too_far(fields, in_turn, line, (len(line.works) - 1,) * 6)

    def test_wrong_kinds(self):
        for thing in not_kinds() + [(0,) * 7, (0, 1) * 4, (0,) * 12, (0, 1) * 6, (0,) * 6 + (2,)]:
            self.refuses(NoKinds, in_turn, TWO, thing)
        for thing in with_each_item_replaced((0, 1) * 3, [None, True, False, -1, 2, (0,), [0]]):
            self.refuses(NoKinds, in_turn, TWO, thing)

    def test_amounts(self):
        for amount in range(16):
            if 1 <= amount <= 6:
                self.gives(((amount, 1), (0,) * amount), in_turn, FREE, (0,) * amount)
            else:
                self.refuses(NoKinds, in_turn, FREE, (0,) * amount)

    def test_kinds_of_the_line(self):
        for line in (ONE, TWO, FREE):
            for kind in (-2, -1, len(line.works), 3, 10 ** 12):
                self.refuses(NoKinds, in_turn, line, (kind,))
                self.refuses(NoKinds, in_turn, line, (0, kind))

    def test_wrong_kinds_come_before_too_far(self):
        for line, _ in too_far_lines():
            for thing in (None, (), (0,) * 7, [0], (True,), (-1,), (3,), "0"):
                self.refuses(NoKinds, in_turn, line, thing)

    def test_wrong_line(self):
        for thing in not_lines():
            for kinds in ((0,), (), None, (0,) * 7):
                self.refuses(NoLine, in_turn, thing, kinds)

    def test_named(self):
        self.gives(((2, 1), (0, 1)), in_turn, line=PAIR, kinds=(0, 1))
        self.gives(((2, 1), (0, 1)), in_turn, kinds=(0, 1), line=PAIR)
        self.refuses(NoKinds, in_turn, PAIR, kinds=[0])
        self.refuses(TooFar, in_turn, kinds=(0,), line=Line(two_visits(0, 9)))


if __name__ == "__main__":
    unittest.main()
