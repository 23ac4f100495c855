"""Point [21]: plans in a given order, or of given amounts."""

import itertools
import random
import time
import unittest

from startgaps.errors import NoCounts, NoKinds, NoLine
from startgaps.lines import Line
from startgaps.orders import early, soonest, soonest_of
from startgaps.plans import clash, is_plan
from tests.oracles import pieces_clash, soonest_by_distances
from tests.samples import (
    FAR_ONE, FAR_THREE, FAR_TWO, HUGE, LONGEST, WORK, Case, near_lines, nested, not_integers, not_lines, picture,
    random_works, too_far_lines, two_visits, with_each_item_replaced,
)

ONE = Line(WORK)
TWO = Line((0, 0), (1, -1, 1))
FREE = Line((0,), (1,), (2,))
# A piece of kind 1 as early as can be is in the way of those behind it.
HELD = Line((0, 0), (0, 1, 1, 0))


def early_by_pieces(line, kinds):
    """Try tick by tick for each piece."""
    plan = ()
    for kind in kinds:
        tick = plan[-1][0] + 1 if plan else 0
        while pieces_clash(line, plan + ((tick, kind),)):
            tick += 1
        plan += ((tick, kind),)
    return plan


def orders_of(counts):
    """Return all orders of so many pieces of each kind, each once."""
    kinds = [kind for kind, count in enumerate(counts) for _ in range(count)]
    return sorted(set(itertools.permutations(kinds)))


def not_kinds():
    """Return values that are not 1 to 12 kinds of a line of two works, of every kind and wrong in every place."""
    items = not_integers() + [-1, -2, 2, 3, HUGE, -HUGE]
    good = [picture((0,)), picture((0, 0))]
    wrong = [thing for thing in not_integers() if picture(thing) not in good]
    wrong += [0, 1, (), [0], [0, 1], "0 1", ((0,),), ((0,), (1,)), nested(20), (TWO,), {0: 0}, (0,) * 13, (0, 1) * 7]
    wrong += [(0,) * 60, (1,) * 4000, (0,) * 12 + (None,), [0] * 12, ((0,) * 12,)]
    wrong += [(thing,) for thing in items] + list(with_each_item_replaced((0, 1, 1, 0), items))
    return wrong + list(with_each_item_replaced((0, 1) * 6, [None, True, False, -1, 2, (0,), [0]]))


def not_counts():
    """Return values that are no counts for a line of two works, of every kind and wrong in every place."""
    items = not_integers() + [-1, -2, 5, 6, HUGE, -HUGE]
    wrong = not_integers() + [0, 1, 4, (), (1,), (0, 0), (1, 1, 1), (1, 1, 0), [1, 1], [1, 0], {0: 1, 1: 1}, "1 1"]
    wrong += [((1, 1),), ((1,), (1,)), nested(20), (TWO, TWO), (1,) * 2000, (-1, 1), (4, -3), (5, 0), (0, 5), (5, 5)]
    return wrong + list(with_each_item_replaced((1, 2), items)) + list(with_each_item_replaced((4, 0), items))


class Early(Case):

    def test_of_the_session(self):
        ticks = (0, 2, 4, 11, 13, 15, 22, 24, 26, 33, 35, 37)
        self.gives(tuple((tick, 0) for tick in ticks), early, ONE, (0,) * 12)

    def test_one_kind(self):
        self.gives(((0, 0),), early, ONE, (0,))
        for kind in range(3):
            self.gives(((0, kind),), early, FREE, (kind,))
            self.gives(((0, kind),), early, FAR_THREE, (kind,))

    def test_at_most_one_start_in_a_tick(self):
        self.gives(((0, 0), (1, 0), (2, 0)), early, FREE, (0, 0, 0))
        self.gives(((0, 2), (1, 0), (2, 1)), early, FREE, (2, 0, 1))

    def test_behind_the_one_before(self):
        # A piece of kind 1 could be started in tick 1, but the piece before it comes first.
        self.gives(((0, 0), (2, 0), (3, 1)), early, TWO, (0, 0, 1))
        self.gives(((0, 0), (1, 1), (2, 0)), early, TWO, (0, 1, 0))
        self.gives(((0, 1), (1, 1), (2, 0), (4, 0)), early, TWO, (1, 1, 0, 0))

    def test_clashes_with_a_piece_that_is_not_the_last_one(self):
        line = Line(two_visits(0, 3), (1,))
        self.gives(((0, 0), (1, 1), (2, 1), (4, 0)), early, line, (0, 1, 1, 0))
        self.gives(((0, 0), (1, 0), (2, 0), (6, 0)), early, line, (0, 0, 0, 0))

    def test_need_not_be_soonest(self):
        found = []
        for line in near_lines(601, 80):
            for size in range(1, 5):
                for kinds in itertools.product(range(len(line.works)), repeat=size):
                    found.append(early(line, kinds)[-1][0] > soonest(line, kinds)[-1][0])
                    self.assertLessEqual(soonest(line, kinds)[-1][0], early(line, kinds)[-1][0])
        self.assertEqual(set(found), {True, False})

    def test_no_line_is_too_far(self):
        self.gives(tuple((60 * at, 0) for at in range(12)), early, Line((5,) * 60), (0,) * 12)
        self.gives(tuple((at, 0) for at in range(12)), early, Line(two_visits(3, 59)), (0,) * 12)
        for line, _ in too_far_lines():
            kinds = tuple(at % len(line.works) for at in range(12))
            self.gives(early_by_pieces(line, kinds), early, line, kinds)

    def test_piece_by_piece(self):
        chance = random.Random(602)
        lines = [ONE, TWO, FREE, HELD, FAR_ONE, FAR_TWO, FAR_THREE] + near_lines(602, 60)
        lines += [Line(*random_works(at, 1 + at % 3, 60, 1 + at % 10)) for at in range(60)]
        for line in lines:
            kinds = tuple(chance.randrange(len(line.works)) for _ in range(chance.randint(1, 12)))
            plan = early(line, kinds)
            self.gives(early_by_pieces(line, kinds), early, line, kinds)
            self.assertTrue(is_plan(line, plan))
            self.assertIsNone(clash(line, plan))

    def test_wrong_kinds(self):
        for thing in not_kinds():
            self.refuses(NoKinds, early, TWO, thing)

    def test_amounts(self):
        for amount in range(20):
            if 1 <= amount <= 12:
                self.gives(tuple((tick, 0) for tick in range(amount)), early, FREE, (0,) * amount)
            else:
                self.refuses(NoKinds, early, FREE, (0,) * amount)

    def test_wrong_line(self):
        for thing in not_lines():
            self.refuses(NoLine, early, thing, (0,))
            self.refuses(NoLine, early, thing, None)

    def test_named(self):
        self.gives(((0, 0), (2, 0)), early, line=ONE, kinds=(0, 0))
        self.gives(((0, 0), (2, 0)), early, kinds=(0, 0), line=ONE)
        self.refuses(NoKinds, early, ONE, kinds=[0])


class Soonest(Case):

    def test_of_the_session(self):
        self.gives(((0, 0), (2, 0), (4, 0)), soonest, ONE, (0, 0, 0))
        plan = soonest(ONE, (0,) * 12)
        self.assertIsNone(clash(ONE, plan))
        self.same(plan[-1][0], 37)

    def test_one_kind(self):
        self.gives(((0, 0),), soonest, ONE, (0,))
        for kind in range(3):
            self.gives(((0, kind),), soonest, FREE, (kind,))
            self.gives(((0, kind),), soonest, FAR_THREE, (kind,))

    def test_later_at_first_may_be_sooner_at_last(self):
        line = Line((0, 1, 2), (2, 3, 0), (2,))
        for kinds in itertools.product(range(3), repeat=4):
            self.gives(soonest_by_distances(line, [kinds]), soonest, line, kinds)

    def test_by_all_distances(self):
        chance = random.Random(611)
        later = 0
        for line in [ONE, TWO, FREE, HELD, FAR_TWO] + near_lines(611, 70):
            for size in range(1, 6 if line.reach <= 5 else 5):
                kinds = tuple(chance.randrange(len(line.works)) for _ in range(size))
                expected = soonest_by_distances(line, [kinds])
                self.gives(expected, soonest, line, kinds)
                later += expected != early_by_pieces(line, kinds)
        self.assertGreater(later, 5)

    def test_the_smallest_of_several(self):
        line = Line(two_visits(0, 2), (1,))
        self.gives(((0, 0), (1, 0), (4, 0)), soonest, line, (0, 0, 0))
        self.gives(((0, 1), (1, 0), (2, 0)), soonest, line, (1, 0, 0))
        self.gives(((0, 0), (1, 1), (3, 0)), soonest, line, (0, 1, 0))
        self.gives(((0, 0), (1, 1), (2, 1), (3, 1), (4, 0)), soonest, line, (0, 1, 1, 1, 0))

    def test_twelve_kinds(self):
        chance = random.Random(612)
        for line in near_lines(612, 40):
            kinds = tuple(chance.randrange(len(line.works)) for _ in range(12))
            plan = soonest(line, kinds)
            self.assertTrue(is_plan(line, plan))
            self.assertFalse(pieces_clash(line, plan))
            self.same((tuple(kind for _, kind in plan), plan[0][0]), (kinds, 0))
            for size in range(1, 12):
                self.assertLessEqual(soonest(line, kinds[:size])[-1][0], plan[size - 1][0])

    def test_twelve_kinds_by_all_distances_and_windows(self):
        chance = random.Random(613)
        for line in [ONE, HELD, FAR_TWO] + near_lines(613, 40, 4):
            kinds = tuple(chance.randrange(len(line.works)) for _ in range(12))
            self.gives(soonest_by_windows(line, kinds), soonest, line, kinds)

    def test_without_long_waiting(self):
        began = time.perf_counter()
        for line in (FAR_ONE, FAR_TWO, FAR_THREE, Line((0,) * 9), Line((1,) * 6, (1,) * 6, (1,) * 6)):
            many = len(line.works)
            for kinds in ((0,) * 12, tuple(at % many for at in range(12)), tuple(at // 4 % many for at in range(12))):
                plan = soonest(line, kinds)
                self.assertIsNone(clash(line, plan))
                self.assertLessEqual(plan[-1][0], early(line, kinds)[-1][0])
        self.assertLess(time.perf_counter() - began, 30)

    def test_as_far_as_the_limits_let(self):
        self.gives(((0, 0), (9, 0)), soonest, Line((3,) * 9), (0, 0))
        self.gives(tuple((tick, 0) for tick in (0, 1, 2, 3, 4, 5, 6, 7, 16, 17, 18, 19)), soonest, FAR_ONE, (0,) * 12)
        self.gives(((0, 1), (6, 1)), soonest, Line((4,), (3,) * 6), (1, 1))
        self.gives(((0, 1), (1, 0), (6, 1)), soonest, Line((4,), (3,) * 6, (5,)), (1, 0, 1))

    def test_too_far(self):
        for line, fields in too_far_lines():
            self.refuses_too_far(fields, soonest, line, (0,))
            self.refuses_too_far(fields, soonest, line, (0,) * 12)

    def test_wrong_kinds(self):
        for thing in not_kinds():
            self.refuses(NoKinds, soonest, TWO, thing)

    def test_wrong_kinds_come_before_too_far(self):
        for line, _ in too_far_lines():
            for thing in (None, (), [0], (True,), (-1,), (3,), (0,) * 13):
                self.refuses(NoKinds, soonest, line, thing)

    def test_wrong_line(self):
        for thing in not_lines():
            self.refuses(NoLine, soonest, thing, (0,))
            self.refuses(NoLine, soonest, thing, None)

    def test_named(self):
        self.gives(((0, 0), (2, 0)), soonest, line=ONE, kinds=(0, 0))
        self.gives(((0, 0), (2, 0)), soonest, kinds=(0, 0), line=ONE)
        self.refuses(NoKinds, soonest, ONE, kinds=[0])


class SoonestOf(Case):

    def test_one_piece(self):
        self.gives(((0, 0),), soonest_of, ONE, (1,))
        self.gives(((0, 1),), soonest_of, TWO, (0, 1))
        self.gives(((0, 2),), soonest_of, FAR_THREE, (0, 0, 1))

    def test_of_one_kind(self):
        for count in range(1, 5):
            self.gives(soonest(ONE, (0,) * count), soonest_of, ONE, (count,))
            self.gives(soonest(TWO, (1,) * count), soonest_of, TWO, (0, count))

    def test_eight_pieces(self):
        self.gives(tuple(enumerate((0, 0, 0, 0, 1, 1, 1, 1))), soonest_of, FREE, (4, 4, 0))
        self.gives(tuple(enumerate((0, 0, 0, 1, 1, 1, 2, 2))), soonest_of, FREE, (3, 3, 2))
        self.gives(tuple(enumerate((0, 0, 0, 1, 1, 1, 2, 2))), soonest_of, FAR_THREE, (3, 3, 2))
        self.gives(tuple(enumerate((0, 1) * 4)), soonest_of, Line((0, 0), (1, 1)), (4, 4))
        self.gives(tuple((2 * at, at // 4) for at in range(8)), soonest_of, Line((0, 0), (0, 0)), (4, 4))

    def test_the_order_matters(self):
        self.gives(((0, 0), (1, 1), (2, 0)), soonest_of, Line((0, 0), (1, 1)), (2, 1))
        self.gives(((0, 1), (1, 0), (2, 1)), soonest_of, Line((0, 0), (1, 1)), (1, 2))
        line = Line((0, 1, 2), (2, 2))
        self.same((line(0, 1), line(1, 0)), ((1, 2), ()))
        self.gives(((0, 1), (1, 0)), soonest_of, line, (1, 1))

    def test_the_smallest_of_several(self):
        self.gives(((0, 0), (1, 1)), soonest_of, FREE, (1, 1, 0))
        self.gives(((0, 0), (1, 2)), soonest_of, FREE, (1, 0, 1))
        self.gives(((0, 0), (1, 1), (2, 1)), soonest_of, FREE, (1, 2, 0))

    def test_by_all_orders_and_distances(self):
        for line in [ONE, TWO, FREE, HELD] + near_lines(621, 25, 4):
            many = len(line.works)
            for counts in itertools.product(range(4), repeat=many):
                if 1 <= sum(counts) <= (4 if line.reach < 4 else 3):
                    self.gives(soonest_by_distances(line, orders_of(counts)), soonest_of, line, counts)

    def test_by_all_orders(self):
        chance = random.Random(622)
        for line in [TWO, HELD] + near_lines(622, 30):
            counts = (0,)
            while not 1 <= sum(counts) <= 6:
                counts = tuple(chance.randint(0, 4) for _ in line.works)
            plans = [soonest(line, kinds) for kinds in orders_of(counts)]
            self.gives(min(plans, key=lambda plan: (plan[-1][0], plan)), soonest_of, line, counts)

    def test_eight_pieces_by_all_orders(self):
        for line, counts in ((TWO, (4, 4)), (HELD, (4, 4))):
            plans = [soonest_by_windows(line, kinds) for kinds in orders_of(counts)]
            self.gives(min(plans, key=lambda plan: (plan[-1][0], plan)), soonest_of, line, counts)

    def test_without_long_waiting(self):
        began = time.perf_counter()
        for line in (FAR_THREE, Line((1,) * 6, (1,) * 6, (1,) * 6), Line((0, 1, 2, 3, 4, 0), (4, 3, 1), (2, 0, 4))):
            for counts in ((4, 4, 0), (0, 4, 4), (3, 3, 2), (4, 2, 2), (2, 2, 4), (4, 0, 4)):
                plan = soonest_of(line, counts)
                self.assertIsNone(clash(line, plan))
                kinds = [kind for _, kind in plan]
                self.same(tuple(kinds.count(kind) for kind in range(3)), counts)
        for line in (FAR_TWO, Line((1,) * 6, (1,) * 6)):
            self.assertIsNone(clash(line, soonest_of(line, (4, 4))))
        self.same(soonest_of(Line((0,) * 9), (4,))[-1][0], 27)
        self.assertLess(time.perf_counter() - began, 30)

    def test_sums(self):
        for counts in itertools.product(range(6), repeat=3):
            if sum(counts) <= 8 and max(counts) <= 4 and sum(counts) >= 1:
                kinds = [kind for kind, count in enumerate(counts) for _ in range(count)]
                self.gives(tuple(enumerate(kinds)), soonest_of, FREE, counts)
            else:
                self.refuses(NoCounts, soonest_of, FREE, counts)

    def test_as_many_as_kinds(self):
        for line in (ONE, TWO, FREE):
            for amount in range(6):
                if amount != len(line.works):
                    self.refuses(NoCounts, soonest_of, line, (1,) * amount)

    def test_too_far(self):
        for line, fields in too_far_lines():
            self.refuses_too_far(fields, soonest_of, line, (1,) * len(line.works))

    def test_as_far_as_the_limits_let(self):
        self.gives(((0, 0), (9, 0)), soonest_of, Line((3,) * 9), (2,))
        self.gives(((0, 1), (1, 0), (6, 1)), soonest_of, Line((4,), (3,) * 6), (1, 2))

    def test_wrong_counts(self):
        for thing in not_counts():
            self.refuses(NoCounts, soonest_of, TWO, thing)

    def test_wrong_counts_come_before_too_far(self):
        for line, _ in too_far_lines():
            many = len(line.works)
            for thing in (None, (), (0,) * many, [1] * many, (True,) * many, (5,) * many, (1,) * (many + 1)):
                self.refuses(NoCounts, soonest_of, line, thing)

    def test_wrong_line(self):
        for thing in not_lines():
            self.refuses(NoLine, soonest_of, thing, (1,))
            self.refuses(NoLine, soonest_of, thing, None)

    def test_named(self):
        self.gives(((0, 0), (2, 0)), soonest_of, line=ONE, counts=(2,))
        self.gives(((0, 0), (2, 0)), soonest_of, counts=(2,), line=ONE)
        self.refuses(NoCounts, soonest_of, ONE, counts=[2])


def soonest_by_windows(line, kinds):
    """Go on piece by piece: of all plans whose last starts lie in the same way, the best one is enough."""
    plans = {(): ((0, kinds[0]),)}
    for kind in kinds[1:]:
        longer = {}
        for plan in plans.values():
            for distance in range(1, line.reach + 2):
                tried = plan + ((plan[-1][0] + distance, kind),)
                if pieces_clash(line, tried[-1 - line.reach - 1:]):
                    continue
                window = tuple((tried[-1][0] - tick, one) for tick, one in tried if tried[-1][0] - tick <= line.reach)
                known = longer.get(window)
                if known is None or (tried[-1][0], tried) < (known[-1][0], known):
                    longer[window] = tried
        plans = longer
    return min(plans.values(), key=lambda plan: (plan[-1][0], plan))


if __name__ == "__main__":
    unittest.main()
