"""Point [100]: works with given bars, and lines that are alike."""

import itertools
import random
import unittest

from startgaps.errors import NoBars, NoLine
from startgaps.likes import alike, work_with
from startgaps.lines import Line
from startgaps.plans import clash
from startgaps.works import bars, is_work
from tests.oracles import pieces_clash, taken
from tests.samples import (
    FAR_ONE, FAR_THREE, FAR_TWO, HUGE, LONGEST, WORK, Case, near_lines, nested, not_integers, not_lines, picture,
    random_works, two_visits, with_each_item_replaced,
)

FARTHEST = tuple(range(13, 21))


def bars_by_pieces(one, other):
    """Try each distance by the stations that the pieces take."""
    return tuple(distance for distance in range(1, 130) if taken(one, 0) & taken(other, distance))


def alike_by_pieces(one, other):
    """Try all orders of kinds; return the smallest one in which all bars agree, None if there is none."""
    kinds = range(len(one.works))
    if len(one.works) != len(other.works):
        return None
    return min((order for order in itertools.permutations(kinds) if all(
        bars_by_pieces(one.works[a], one.works[b]) == bars_by_pieces(other.works[order[a]], other.works[order[b]])
        for a in kinds for b in kinds)), default=None)


def disguised(chance, line):
    """Return a line with the same bars: other stations, and the kinds in another order."""
    names = chance.sample(range(10), 10)
    works = [tuple(names[item] if item != -1 else -1 for item in work) for work in line.works]
    chance.shuffle(works)
    return Line(*works)


def not_bars():
    """Return values that are no ascending tuples of up to eight integers from 1 to 20."""
    items = not_integers() + [0, -1, 21, 22, HUGE, -HUGE]
    wrong = [thing for thing in not_integers() if picture(thing) != picture(())]
    wrong += [0, 1, 20, (0,), (21,), [1], [1, 2], (2, 1), (1, 1), (1, 2, 2), (1, 3, 2), (20, 1), (5, 5, 5), "1 2", {1: 2}]
    wrong += [tuple(range(1, 10)), tuple(range(12, 21)), tuple(range(1, 21)), (1,) * 8, (1,) * 4000, ((1, 2),), ((),)]
    wrong += [(1, 2, 3, 4, 5, 6, 8, 7), (0, 1, 2), (1, 2, 21), nested(20), (Line((0,)),), FARTHEST[::-1]]
    return wrong + [(thing,) for thing in items] + list(with_each_item_replaced((3, 7, 12), items)) \
        + list(with_each_item_replaced(FARTHEST, [True, None, (13,), [13], 0, 21]))


class WorkWith(Case):

    def has_just(self, distances):
        work = work_with(distances)
        self.gives(work, work_with, distances)
        self.gives(True, is_work, work)
        self.gives(distances, bars, work, work)
        self.same(bars_by_pieces(work, work), distances)

    def test_none(self):
        self.has_just(())

    def test_each_single_one(self):
        for distance in range(1, 21):
            self.has_just((distance,))

    def test_few(self):
        for many in (2, 3):
            for distances in itertools.combinations(range(1, 21), many):
                work = work_with(distances)
                self.assertTrue(is_work(work))
                self.assertEqual(bars(work, work), distances)

    def test_of_the_session(self):
        self.has_just((1, 5, 6))

    def test_eight(self):
        chance = random.Random(1301)
        for distances in ((1, 2, 3, 4, 5, 6, 7, 8), FARTHEST, (1, 3, 5, 7, 9, 11, 13, 15), (2, 4, 8, 10, 12, 16, 18, 20)):
            self.has_just(distances)
        for many in range(4, 9):
            for _ in range(150):
                self.has_just(tuple(sorted(chance.sample(range(1, 21), many))))

    def test_amounts(self):
        for many in range(21):
            distances = tuple(range(1, many + 1))
            if many <= 8:
                self.has_just(distances)
            else:
                self.refuses(NoBars, work_with, distances)

    def test_no_bars(self):
        for thing in not_bars():
            self.refuses(NoBars, work_with, thing)

    def test_from_1_to_20(self):
        for distance in range(-3, 25):
            if not 1 <= distance <= 20:
                self.refuses(NoBars, work_with, (distance,))

    def test_ascending(self):
        for distances in itertools.product(range(1, 5), repeat=3):
            if list(distances) == sorted(set(distances)):
                self.has_just(distances)
            else:
                self.refuses(NoBars, work_with, distances)

    def test_named(self):
        work = work_with(distances=(1, 4))
        self.gives((1, 4), bars, work, work)
        self.refuses(NoBars, work_with, distances=[1, 4])


class Alike(Case):

    def test_one_work(self):
        self.gives((0,), alike, Line(WORK), Line(WORK))
        self.gives((0,), alike, Line(WORK), Line(tuple(8 if item == 0 else item for item in WORK)))
        self.gives((0,), alike, Line(WORK), Line(work_with((1, 5, 6))))
        self.gives((0,), alike, Line(WORK), Line(WORK[::-1]))
        self.gives(None, alike, Line(WORK), Line(work_with((1, 5))))
        self.gives((0,), alike, Line((3,)), Line(LONGEST))

    def test_two_works(self):
        self.gives((0, 1), alike, Line((0,), (1, 1)), Line((2,), (3, 3)))
        self.gives((1, 0), alike, Line((0,), (1, 1)), Line((3, 3), (2,)))
        self.gives(None, alike, Line((0,), (1, 1)), Line((3, 3), (3,)))
        self.gives(None, alike, Line((0,), (1, 1)), Line((3, 3), (2, 2)))

    def test_bars_of_two_kinds_in_both_orders(self):
        line = Line((0, 1, 2), (2, 5))
        self.same((line(0, 1), line(1, 0)), ((2,), ()))
        self.gives((0, 1), alike, line, Line((6, 7, 8), (8, 9)))
        self.gives((1, 0), alike, line, Line((8, 9), (6, 7, 8)))
        self.gives((1, 0), alike, line, Line((6, 7), (8, 9, 6)))
        self.gives(None, alike, line, Line((6, 7), (8, 6)))
        self.gives((1, 0), alike, line, Line((6, 9), (7, 8, 6)))

    def test_the_smallest(self):
        self.gives((0, 1, 2), alike, Line((0,), (0,), (0,)), Line((1,), (2,), (3,)))
        self.gives((0, 1, 2), alike, FAR_THREE, FAR_THREE)
        self.gives((0, 1), alike, Line((1, 1), (1, 1)), Line((2, 2), (2, 2)))
        self.gives((1, 0, 2), alike, Line((0,), (1, 1), (2,)), Line((1, 1), (5,), (6,)))
        self.gives((0, 2, 1), alike, Line((0,), (1, 1), (2,)), Line((4,), (5,), (6, 6)))

    def test_the_kinds_of_other_in_the_places_of_one(self):
        # Kind 0 of one is kind 1 of other, kind 1 is kind 2, kind 2 is kind 0.
        one = Line((0,), (1, 1), (2, -1, 2))
        other = Line((5, -1, 5), (6,), (7, 7))
        self.gives((1, 2, 0), alike, one, other)
        self.gives((2, 0, 1), alike, other, one)

    def test_unlike_numbers_of_works(self):
        lines = (Line((0,)), Line((0,), (0,)), Line((0,), (0,), (0,)))
        for one, other in itertools.product(lines, repeat=2):
            expected = tuple(range(len(one.works))) if one is other else None
            self.gives(expected, alike, one, other)
        self.gives(None, alike, FAR_ONE, FAR_TWO)
        self.gives(None, alike, FAR_THREE, FAR_TWO)

    def test_by_trying_all_orders(self):
        chance = random.Random(1311)
        found = set()
        lines = near_lines(1311, 80) + [FAR_ONE, FAR_TWO, FAR_THREE]
        lines += [Line(*random_works(at, 1 + at % 3, 12, 2)) for at in range(30)]
        for line in lines:
            for other in (disguised(chance, line), chance.choice(lines), Line(*chance.sample(line.works, len(line.works)))):
                expected = alike_by_pieces(line, other)
                found.add(expected)
                self.gives(expected, alike, line, other)
        self.assertEqual(len(found), 1 + 1 + 2 + 6)

    def test_small_lines(self):
        works = ((0,), (0, 0), (0, 1), (1, 0), (1,))
        for pair in itertools.product(works, repeat=2):
            for other in itertools.product(works, repeat=2):
                self.gives(alike_by_pieces(Line(*pair), Line(*other)), alike, Line(*pair), Line(*other))

    def test_no_line_is_too_far(self):
        self.gives((0,), alike, Line(two_visits(0, 59)), Line(two_visits(5, 59)))
        self.gives(None, alike, Line(two_visits(0, 59)), Line(two_visits(5, 58)))

    def test_the_same_plans_without_a_clash(self):
        chance = random.Random(1312)
        found = set()
        for line in near_lines(1312, 60):
            other = disguised(chance, line)
            order = alike(line, other)
            for _ in range(8):
                ticks = sorted(chance.sample(range(12), chance.randint(1, 6)))
                plan = tuple((tick, chance.randrange(len(line.works))) for tick in ticks)
                renamed = tuple((tick, order[kind]) for tick, kind in plan)
                found.add(clash(line, plan) is None)
                self.assertEqual(clash(line, plan) is None, clash(other, renamed) is None)
                self.assertEqual(clash(other, renamed) is None, not pieces_clash(other, renamed))
        self.assertEqual(found, {True, False})

    def test_wrong_line(self):
        for thing in not_lines():
            self.refuses(NoLine, alike, thing, Line((0,)))
            self.refuses(NoLine, alike, Line((0,)), thing)
            self.refuses(NoLine, alike, thing, thing)

    def test_named(self):
        self.gives((1, 0), alike, one=Line((0,), (1, 1)), other=Line((3, 3), (2,)))
        self.gives((1, 2, 0), alike, other=Line((5, -1, 5), (6,), (7, 7)), one=Line((0,), (1, 1), (2, -1, 2)))
        self.refuses(NoLine, alike, other=Line((0,)), one=None)


if __name__ == "__main__":
    unittest.main()
