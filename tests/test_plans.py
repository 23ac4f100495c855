"""Point [20]: plans, and their first clash."""

import itertools
import random
import unittest

from startgaps.errors import NoLine, NoPlan
from startgaps.lines import Line
from startgaps.plans import clash, is_plan
from tests.samples import (
    LONGEST, WORK, Case, nested, not_integers, not_lines, picture, random_works, small_works, with_each_item_replaced,
)

ONE = Line(WORK)
TWO = Line((0, 1, 2), (2, -1, 0))
THREE = Line((0, 1), (1, 0), (2, 2))
HUGE = 10 ** 13 - 1


def first_clash(line, plan):
    """Go through all ticks, stations and pairs of pieces in the order that the document names."""
    works = [line.works[kind] for _, kind in plan]
    ticks = {tick + passed for tick, kind in plan for passed in range(len(line.works[kind]))}
    for tick in sorted(ticks):
        for station in range(10):
            there = [piece for piece, (start, _) in enumerate(plan)
                     if 0 <= tick - start < len(works[piece]) and works[piece][tick - start] == station]
            for first, second in itertools.combinations(there, 2):
                return tick, station, first, second
    return None


def not_plans():
    """Return values that are no plans of a line of three works, of every kind and wrong in every place."""
    numbers = not_integers() + [-1, -2, -HUGE]
    starts = not_integers() + [0, 1, -1, (0, 0, 0), [0, 0], [1, 1], [3, 0], (0, 0), (2, 0), (2, 2)]
    good = ((0, 0), (2, 1), (3, 0))
    whole = [thing for thing in not_integers() if picture(thing) != picture(())]
    wrong = whole + [
        0, 1, -1, [(0, 0)], [[0, 0]], ([0, 0],), (0, 0), ((0,),), ((0, 0, 0),), ((),), ("00",), ("0:0",), "0:0", "none",
        ({0: 0, 1: 0},), {(0, 0): True}, ((0, 0), None), ((0, 0), (0, 0)), ((0, 0), (0, 1)), ((1, 0), (0, 0)),
        ((0, 0), (5, 0), (5, 1)), ((0, 0), (5, 0), (4, 0)), ((7, 0), (8, 0), (0, 0)), (((0, 0), (1, 0)),), nested(20),
        tuple((tick, 0) for tick in range(61)), tuple((tick, 0) for tick in range(2000)), ((0, 0), ONE), (ONE,),
    ]
    wrong += [((tick, 0),) for tick in numbers] + [((0, kind),) for kind in numbers + [3, HUGE]]
    for at, start in enumerate(good):
        kinds = with_each_item_replaced(start, not_integers() + [-1])
        wrong += [good[:at] + (other,) + good[at + 1:] for other in kinds]
        wrong += [good[:at] + ((start[0], kind),) + good[at + 1:] for kind in (3, HUGE, -2)]
    return wrong + [thing for thing in with_each_item_replaced(good, starts) if not is_ascending(thing)]


def is_ascending(starts):
    """Tell whether these starts, all of them from the lists above, make up a plan after all."""
    if not all(type(start) is tuple and len(start) == 2 for start in starts):
        return False
    return all(one[0] < other[0] for one, other in zip(starts, starts[1:]))


class IsPlan(Case):

    def test_plans(self):
        for plan in ((), ((0, 0),), ((HUGE, 0),), ((0, 0), (1, 0)), ((5, 0), (6, 0), (HUGE, 0))):
            for line in (ONE, TWO, THREE):
                self.gives(True, is_plan, line, plan)

    def test_pieces_that_clash_make_a_plan(self):
        self.gives(True, is_plan, ONE, ((0, 0), (1, 0), (2, 0)))

    def test_kinds_of_the_line(self):
        for line in (ONE, TWO, THREE):
            for kind in range(-2, 5):
                self.gives(0 <= kind < len(line.works), is_plan, line, ((4, kind),))
                self.gives(0 <= kind < len(line.works), is_plan, line, ((0, 0), (4, kind)))

    def test_amounts(self):
        for amount in (0, 1, 2, 59, 60, 61, 62, 120, 1900):
            plan = tuple((3 * at, at % 3) for at in range(amount))
            self.gives(amount <= 60, is_plan, THREE, plan)

    def test_ticks(self):
        self.gives(True, is_plan, ONE, ((0, 0), (1, 0)))
        self.gives(False, is_plan, ONE, ((0, 0), (0, 0)))
        self.gives(False, is_plan, ONE, ((1, 0), (0, 0)))
        self.gives(False, is_plan, ONE, ((-1, 0),))
        self.gives(False, is_plan, ONE, ((-1, 0), (0, 0)))
        self.gives(False, is_plan, ONE, ((0, 0), (9, 0), (9, 0)))
        self.gives(False, is_plan, ONE, ((0, 0), (9, 0), (8, 0)))
        self.gives(False, is_plan, TWO, ((4, 0), (4, 1)))
        self.gives(False, is_plan, TWO, ((4, 1), (4, 0)))

    def test_no_plans(self):
        for thing in not_plans():
            self.gives(False, is_plan, THREE, thing)

    def test_wrong_line(self):
        for thing in not_lines():
            self.refuses(NoLine, is_plan, thing, ())
            self.refuses(NoLine, is_plan, thing, ((0, 0),))
            self.refuses(NoLine, is_plan, thing, thing)

    def test_named(self):
        self.gives(True, is_plan, line=TWO, thing=((0, 1),))
        self.gives(False, is_plan, thing=((0, 2),), line=TWO)
        self.gives(True, is_plan, TWO, thing=())
        self.refuses(NoLine, is_plan, line=((0, 1),), thing=TWO)


class FirstClash(Case):

    def test_none(self):
        self.gives(None, clash, ONE, ())
        self.gives(None, clash, ONE, ((0, 0),))
        self.gives(None, clash, ONE, ((0, 0), (2, 0), (4, 0)))
        self.gives(None, clash, TWO, ((0, 0), (1, 1)))
        self.gives(None, clash, Line(LONGEST), tuple((tick, 0) for tick in range(60)))

    def test_each_bar(self):
        self.gives((1, 0, 0, 1), clash, ONE, ((0, 0), (1, 0)))
        self.gives((6, 0, 0, 1), clash, ONE, ((0, 0), (5, 0)))
        self.gives((6, 0, 0, 1), clash, ONE, ((0, 0), (6, 0)))
        for distance in (2, 3, 4, 7, 8):
            self.gives(None, clash, ONE, ((0, 0), (distance, 0)))

    def test_first_and_last_tick(self):
        line = Line((5, 0, 7), (7, 1, 5))
        self.gives((102, 7, 0, 1), clash, line, ((100, 0), (102, 1)))
        self.gives((102, 5, 0, 1), clash, line, ((100, 1), (102, 0)))
        self.gives(None, clash, line, ((100, 1), (103, 0)))

    def test_the_first_tick_is_not_of_the_first_pair(self):
        line = Line((0, -1, -1, -1, -1, 0), (1, 1))
        self.gives((2, 1, 1, 2), clash, line, ((0, 0), (1, 1), (2, 1), (5, 0)))

    def test_the_least_station(self):
        line = Line((0, 1, 2), (2, 1, 0))
        later = Line((0, 9, 4, 3), (8, 3))
        self.gives((2, 2, 0, 1), clash, line, ((0, 0), (2, 1)))
        self.gives((3, 3, 0, 1), clash, later, ((0, 0), (2, 1)))
        two = Line((9, -1, 1), (1, -1, 0, 9))
        self.gives((5, 0, 1, 3), clash, Line((9, -1, 8, 8, 5), (7, -1, 0, 0), (0, 6, 6, 5)),
                   ((1, 0), (2, 1), (4, 0), (5, 2)))
        self.gives((2, 1, 0, 2), clash, two, ((0, 0), (1, 0), (2, 1)))

    def test_several_stations_in_one_tick(self):
        line = Line((8, 4), (3, 8), (6, 3))
        self.gives((1, 8, 0, 1), clash, Line((8, 8), (3, 3)), ((0, 0), (1, 0)))
        self.gives((2, 3, 1, 2), clash, Line((8, -1, 8), (3, 3), (8, 3)), ((0, 0), (1, 1), (2, 1)))
        self.gives((3, 3, 1, 2), clash, Line((8, -1, -1, 8), (3, -1, 3), (8, 3)),
                   ((0, 0), (1, 1), (2, 2), (3, 0)))
        self.gives(None, clash, line, ((0, 0), (1, 1)))

    def test_the_smallest_pair(self):
        three = Line((0, 0, 0))
        self.gives((1, 0, 0, 1), clash, three, ((0, 0), (1, 0), (2, 0)))
        line = Line((1, 2, 7), (3, 7), (7,))
        self.gives((2, 7, 0, 1), clash, line, ((0, 0), (1, 1), (2, 2)))
        self.gives((4, 7, 1, 2), clash, line, ((0, 1), (2, 0), (3, 1), (4, 2)))
        self.gives((4, 7, 0, 2), clash, line, ((2, 0), (3, 2), (4, 2)))

    def test_pieces_are_numbered_in_order_of_their_starts(self):
        line = Line((5,), (4, 4))
        self.gives((13, 4, 3, 4), clash, line, ((0, 0), (5, 0), (9, 0), (12, 1), (13, 1)))

    def test_late_and_far_apart(self):
        self.gives((HUGE + 6, 0, 1, 2), clash, ONE, ((0, 0), (HUGE, 0), (HUGE + 5, 0)))
        self.gives(None, clash, ONE, ((0, 0), (HUGE, 0)))

    def test_sixty_pieces(self):
        self.gives((1, 4, 0, 1), clash, Line((4,) * 60), tuple((tick, 0) for tick in range(60)))
        self.gives(None, clash, Line((4,) * 60), tuple((60 * tick, 0) for tick in range(60)))
        apart = tuple((60 * tick, 0) for tick in range(59)) + ((60 * 59 - 1, 0),)
        self.gives((60 * 59 - 1, 4, 58, 59), clash, Line((4,) * 60), apart)

    def test_all_small_plans(self):
        works = small_works(3, 2)
        plans = [tuple(zip(ticks, kinds)) for size in range(4)
                 for ticks in itertools.combinations(range(4), size) for kinds in itertools.product((0, 1), repeat=size)]
        for one, other in itertools.product(works[::3], works[1::4]):
            line = Line(one, other)
            for plan in plans:
                self.same(clash(line, plan), first_clash(line, plan))

    def test_other_plans(self):
        chance = random.Random(31)
        found = set()
        for longest, stations, between in ((60, 10, 20), (12, 6, 4), (6, 3, 6), (20, 10, 1)):
            works = random_works(longest, 120, longest, stations)
            for three in zip(works, works[1:], works[2:]):
                line = Line(*three[:chance.randint(1, 3)])
                tick, plan = 0, []
                for _ in range(chance.randint(0, 9)):
                    tick += chance.randint(1, between)
                    plan.append((tick, chance.randint(0, len(line.works) - 1)))
                expected = first_clash(line, tuple(plan))
                found.add(expected is None)
                self.gives(expected, clash, line, tuple(plan))
        self.assertEqual(found, {True, False})

    def test_wrong_plan(self):
        for thing in not_plans():
            self.refuses(NoPlan, clash, THREE, thing)

    def test_a_kind_that_the_line_does_not_have(self):
        self.refuses(NoPlan, clash, ONE, ((0, 1),))
        self.refuses(NoPlan, clash, TWO, ((0, 1), (1, 2)))
        self.refuses(NoPlan, clash, THREE, ((0, 3),))

    def test_wrong_line(self):
        for thing in not_lines():
            self.refuses(NoLine, clash, thing, ())
            self.refuses(NoLine, clash, thing, ((0, 0), (1, 0)))

    def test_a_wrong_line_comes_before_a_wrong_plan(self):
        for line, plan in itertools.product(not_lines(), (None, [], ((0, 0), (0, 0)), ((True, 0),), ((0, 3),))):
            self.refuses(NoLine, clash, line, plan)

    def test_named(self):
        self.gives((1, 0, 0, 1), clash, line=ONE, plan=((0, 0), (1, 0)))
        self.gives((1, 0, 0, 1), clash, plan=((0, 0), (1, 0)), line=ONE)
        self.gives(None, clash, ONE, plan=())
        self.refuses(NoPlan, clash, line=ONE, plan=[])
        self.refuses(NoLine, clash, line=None, plan=[])


if __name__ == "__main__":
    unittest.main()
