"""What the document promises over the whole program, by the program's own answers: [130], [2], [3] and where parts meet."""

import fractions
import itertools
import math
import random
import unittest

from startgaps.bests import best, prices, shows_best
from startgaps.feeders import Careful, CarefulPaced, Feeder, Paced
from startgaps.fulls import is_full, open_ticks, sparsest
from startgaps.laps import fits, is_lap, mean
from startgaps.likes import alike, work_with
from startgaps.lines import Line
from startgaps.orders import early, soonest
from startgaps.plans import clash, is_plan
from startgaps.rates import is_under, rates
from startgaps.singles import bounds, constants, gap, greedy
from startgaps.states import after, choices, state_at, states
from startgaps.texts import (
    lap_text, line_text, plan_text, read_lap, read_line, read_plan, read_work, work_text,
)
from startgaps.turns import in_turn
from startgaps.waits import stretch, stretched
from startgaps.works import bars, most_visits
from tests.samples import (
    FAR_ONE, FAR_THREE, FAR_TWO, WORK, Case, near_lines, near_works, random_works, random_worths, value,
)
from tests.test_laps import plan_of

ONE = Line(WORK)
TWO = Line((0, 0), (1, -1, 1))
FREE = Line((0,), (1,), (2,))
FAR = [FAR_ONE, FAR_TWO, FAR_THREE]


class Bars(Case):
    """Of [130] what it says of bars."""

    def test_a_work_from_its_end(self):
        for work in random_works(1601, 200):
            self.gives(bars(work, work), bars, work[::-1], work[::-1])
            self.same((-Line(work))(0, 0), Line(work)(0, 0))

    def test_a_lap_fits_if_no_distance_is_a_bar(self):
        chance = random.Random(1602)
        found = set()
        for line in near_lines(1602, 120):
            lap = tuple(chance.randint(-1, len(line.works) - 1) for _ in range(chance.randint(1, 5)))
            starts = [(tick, kind) for tick, kind in enumerate(lap) if kind != -1]
            clashing = [1 for (tick, kind), (later, other) in itertools.product(starts, repeat=2)
                        for laps in range(-1, line.reach + 2) if later - tick + laps * len(lap) in line(kind, other)]
            found.add(not clashing)
            self.gives(not clashing, fits, line, lap)
        self.assertEqual(found, {True, False})

    def test_two_bars(self):
        for one, other in itertools.combinations(range(1, 9), 2):
            if math.gcd(one, other) == 1:
                expected = fractions.Fraction(2 * (one + other), one + other - 1)
                both_odd = one % 2 == 1 and other % 2 == 1
                self.same(gap(work_with((one, other))), (2, 1) if both_odd else expected.as_integer_ratio())

    def test_bars_times_a_number(self):
        for distances in ((1,), (2,), (1, 2), (1, 3), (1, 4), (2, 3), (3, 4), (1, 2, 4), (1, 3, 4), (1, 2, 3, 4)):
            for times in range(2, 8 // distances[-1] + 1):
                self.same(gap(work_with(tuple(times * bar for bar in distances))), gap(work_with(distances)))


class Means(Case):
    """Of [130] what it says of the best means."""

    def test_added_worths(self):
        chance = random.Random(1611)
        for line in near_lines(1611, 60) + FAR[:2]:
            one, other = [tuple(chance.randint(1, 10) for _ in line.works) for _ in range(2)]
            both = tuple(first + second for first, second in zip(one, other))
            self.assertLessEqual(value(best(line, both)[0]), value(best(line, one)[0]) + value(best(line, other)[0]))

    def test_worths_times_a_number(self):
        chance = random.Random(1612)
        for line in near_lines(1612, 60):
            worths = tuple(chance.randint(1, 5) for _ in line.works)
            most, lap = best(line, worths)
            for times in (2, 4):
                expected = (value(most) * times).as_integer_ratio()
                self.gives((expected, lap), best, line, tuple(times * worth for worth in worths))

    def test_a_work_added(self):
        chance = random.Random(1613)
        for line in near_lines(1613, 150, 5):
            for work in ((9,), (8, 8), (0, 9), line.works[0]):
                if len(line.works) < 3 and (line + Line(work)).reach <= 5:
                    worths = random_worths(chance, line)
                    for worth in (0, 1, 20):
                        more = best(line + Line(work), worths + (worth,))[0]
                        self.assertGreaterEqual(value(more), value(best(line, worths)[0]))

    def test_prices_added_up_along_any_lap(self):
        chance = random.Random(1614)
        for line in near_lines(1614, 40) + FAR[:2]:
            worths = random_worths(chance, line)
            top, bottom = best(line, worths)[0]
            price = dict(zip(states(line), prices(line, worths)))
            state = ((),) * len(line.works)
            for _ in range(60):
                choice = chance.choice(choices(line, state))
                behind = after(line, state, choice)
                worth = 0 if choice == -1 else worths[choice]
                self.assertLessEqual(bottom * worth - top, price[behind] - price[state])
                state = behind


class Laps(Case):
    """Of [130] and [90] what is said of full laps and of the pieces of a lap."""

    def test_laps_of_best_are_full(self):
        chance = random.Random(1621)
        for line in near_lines(1621, 80) + FAR:
            lap = best(line, tuple(chance.randint(1, 20) for _ in line.works))[1]
            self.gives(True, is_full, line, lap)
            self.gives((), open_ticks, line, lap)

    def test_pieces_of_a_lap_that_fits_never_clash(self):
        chance = random.Random(1622)
        for line in near_lines(1622, 40) + FAR:
            laps = [best(line, random_worths(chance, line))[1], in_turn(line, (0, len(line.works) - 1))[1], (-1,) * 4]
            for lap in laps:
                self.gives(None, clash, line, plan_of(lap))
                feeder = Careful(line)
                for _ in range(60 // len(lap)):
                    feeder.run(lap)
                self.same(feeder.clashes, ())

    def test_no_full_lap_is_sparser(self):
        for line in near_lines(1623, 120, 3):
            least = value(sparsest(line)[0])
            self.gives(True, is_full, line, sparsest(line)[1])
            for worths in ((1,) * len(line.works), tuple(range(1, 1 + len(line.works)))):
                lap = best(line, worths)[1]
                self.assertLessEqual(least, value(mean(line, lap, (1,) * len(line.works))))


class Works(Case):
    """Points [50], [51] and [70] where they speak of other parts."""

    def test_the_gap_and_the_bounds(self):
        for work in near_works(1631, 60):
            (top, bottom), _ = best(Line(work), (1,))
            self.same(gap(work), (bottom, top))
            told = [value(bound) for bound in bounds(work)]
            self.assertEqual(told, sorted(told))

    def test_constant_distances(self):
        for work in random_works(1632, 100, 12):
            for distance in range(1, len(work) + 1):
                lap = (0,) + (-1,) * (distance - 1)
                self.assertEqual(fits(Line(work), lap), distance in constants(work))
                if distance >= most_visits(work):
                    longer = stretched(work, stretch(work, distance))
                    if len(longer) <= 60:
                        self.gives(True, fits, Line(longer), lap)

    def test_greedy_as_early_and_as_feed(self):
        for work in near_works(1633, 60):
            before, again = greedy(work)
            ticks = tuple(itertools.islice(itertools.accumulate((0, *before, *again * 12)), 12))
            plan = tuple((tick, 0) for tick in ticks)
            self.gives(plan, early, Line(work), (0,) * 12)
            feeder = Feeder(Line(work))
            self.same(tuple(feeder.feed(0) for _ in range(12)), ticks)
            self.same(feeder.plan, plan)

    def test_rates_of_laps_are_under_the_line(self):
        chance = random.Random(1634)
        for line in near_lines(1634, 150):
            if len(line.works) == 2:
                for lap in (best(line, random_worths(chance, line))[1], in_turn(line, (0, 1))[1], rates(line)[0][1]):
                    self.gives(True, is_under, line, (mean(line, lap, (1, 0)), mean(line, lap, (0, 1))))


class Likes(Case):
    """Point [100] where it speaks of other parts."""

    def test_lines_that_are_alike_have_the_same_plans(self):
        chance = random.Random(1641)
        tried = 0
        for line in near_lines(1641, 100):
            other = Line(*[tuple(9 - item if item != -1 else -1 for item in work) for work in line.works[::-1]])
            order = alike(line, other)
            kinds = tuple(chance.randrange(len(line.works)) for _ in range(5))
            for plan in (soonest(line, kinds), early(line, kinds), tuple(enumerate(kinds))):
                renamed = tuple((tick, order[kind]) for tick, kind in plan)
                self.assertEqual(clash(line, plan) is None, clash(other, renamed) is None)
                tried += clash(line, plan) is not None
            worths = random_worths(chance, line)
            moved = tuple(worths[order.index(kind)] for kind in range(len(worths)))
            self.same(best(other, moved)[0], best(line, worths)[0])
        self.assertGreater(tried, 20)

    def test_a_work_with_the_bars_of_another_one(self):
        for work in near_works(1642, 60):
            self.gives((0,), alike, Line(work), Line(work_with(bars(work, work))))
            self.same(gap(work_with(bars(work, work))), gap(work))


class Feeders(Case):
    """Points [110] to [112] where they speak of other parts."""

    def test_feeding_is_as_early(self):
        chance = random.Random(1651)
        for line in near_lines(1651, 60) + FAR:
            kinds = tuple(chance.randrange(len(line.works)) for _ in range(12))
            for feeder in (Feeder(line), Careful(line), Paced(line, 1), CarefulPaced(line, 1)):
                for kind in kinds:
                    feeder.feed(kind)
                self.same(feeder.plan, early(line, kinds))

    def test_until_a_start_as_the_state_tells(self):
        chance = random.Random(1652)
        for line in near_lines(1652, 60):
            feeder = Feeder(line)
            for _ in range(12):
                feeder.run((chance.randint(-1, len(line.works) - 1),))
                state = state_at(line, feeder.plan, feeder.now)
                for kind, delays in enumerate(state):
                    self.same(feeder(kind), next(ticks for ticks in itertools.count() if ticks not in delays))

    def test_a_careful_one_starts_what_can_be_chosen(self):
        chance = random.Random(1653)
        for line in near_lines(1653, 40):
            feeder, state = Careful(line), ((),) * len(line.works)
            for _ in range(20):
                choice = chance.choice(choices(line, state))
                feeder.run((choice,))
                state = after(line, state, choice)
                self.assertEqual([kind for kind in range(len(line.works)) if feeder(kind) == 0],
                                 list(choices(line, state)[1:]))

    def test_plans_of_feeders(self):
        chance = random.Random(1654)
        for line in near_lines(1654, 60):
            feeder = Feeder(line)
            feeder.run(tuple(chance.randint(-1, len(line.works) - 1) for _ in range(20)))
            self.gives(True, is_plan, line, feeder.plan)
            first = clash(line, feeder.plan)
            self.same(feeder.clashes[:1], () if first is None else (first,))
            self.same(read_plan(plan_text(line, feeder.plan)), feeder.plan)

    def test_a_lap_that_fits_goes_on_in_a_paced_one_where_its_starts_are_so_far(self):
        work = (0, 0, -1, -1, -1, -1, 0)
        self.same(stretched(work, stretch(work, 3)), (0, -1, 0, -1, -1, -1, -1, 0))
        feeder = CarefulPaced(Line(stretched(work, stretch(work, 3))), 3)
        for number in range(20):
            self.same(feeder.run((0, -1, -1)), (number,))


class Texts(Case):
    """Point [120] where it speaks of other parts."""

    def test_what_other_parts_return(self):
        chance = random.Random(1661)
        for line in near_lines(1661, 60) + FAR:
            self.same(read_line(line_text(line)), line)
            for work in line.works:
                self.same(read_work(work_text(work)), work)
            lap = best(line, random_worths(chance, line))[1]
            self.assertTrue(is_lap(line, read_lap(lap_text(line, lap))))
            self.same(read_lap(lap_text(line, lap)), lap)
            plan = soonest(line, tuple(chance.randrange(len(line.works)) for _ in range(6)))
            self.same(read_plan(plan_text(line, plan)), plan)

    def test_a_work_is_a_text_line_of_its_line(self):
        for work in near_works(1662, 60):
            self.same(line_text(Line(work, WORK)), work_text(work) + "\n" + work_text(WORK) + "\n")


class General(Case):
    """Points [2] and [3], by calls one after another."""

    def test_calls_in_any_order_return_the_same(self):
        calls = [(best, (TWO, (1, 2))), (prices, (TWO, (1, 2))), (rates, (TWO,)), (in_turn, (TWO, (0, 1))), (states, (TWO,)),
                 (gap, (WORK,)), (stretch, (WORK, 3)), (sparsest, (TWO,)), (work_with, ((1, 4),)), (alike, (TWO, TWO)),
                 (line_text, (TWO,)), (early, (TWO, (0, 1, 1))), (soonest, (TWO, (0, 1, 1)))]
        told = [(call, given, call(*given)) for call, given in calls]
        chance = random.Random(1671)
        for _ in range(3):
            chance.shuffle(told)
            for call, given, expected in told:
                self.gives(expected, call, *given)

    def test_feeders_do_not_share_anything(self):
        one, other = Feeder(TWO), Feeder(TWO)
        one.start(0)
        one.shut(1, 5)
        self.same((other.now, other.plan, other.clashes, other.changes, other(1)), (0, (), (), 0, 0))

    def test_what_a_feeder_returned_does_not_change(self):
        feeder = Feeder(TWO)
        feeder.start(0)
        plan, clashes, there = feeder.plan, feeder.clashes, feeder[0]
        feeder.start(0)
        self.same((plan, clashes, there), (((0, 0),), (), (0,)))

    def test_shown_by_the_lap_of_best_with_parts_changed(self):
        most, lap = best(ONE, (1,))
        found = prices(ONE, (1,))
        self.gives(True, shows_best, ONE, (1,), (lap * 2, found))
        for wrong in ((most, found), (lap, found[1:]), (lap, found, most), (found, lap), ((lap, found),), lap + found):
            self.gives(False, shows_best, ONE, (1,), wrong)


if __name__ == "__main__":
    unittest.main()
