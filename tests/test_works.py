"""Points [10], [11], and of [130] that a work backwards has the same bars."""

import itertools
import unittest

from startgaps.errors import NoWork
from startgaps.works import bars, is_work, most_visits
from tests.samples import LONGEST, WORK, Case, not_works, random_works, small_works


def bars_by_pieces(one, other):
    """Try each distance, piece by piece and tick by tick, far beyond the last one that can clash."""
    found = []
    for distance in range(1, 130):
        ahead = {(tick, station) for tick, station in enumerate(one) if station != -1}
        behind = {(distance + tick, station) for tick, station in enumerate(other) if station != -1}
        if ahead & behind:
            found.append(distance)
    return tuple(found)


class IsWork(Case):

    def test_works(self):
        for work in (WORK, LONGEST, (0,), (9,), (0, 0), (0, -1, 9), (5,) * 60, (9,) + (-1,) * 58 + (0,),
                     (0, 1, 2, 3, 4, 5, 6, 7, 8, 9), (1, -1, -1, 1)):
            self.gives(True, is_work, work)

    def test_each_station(self):
        for station in range(10):
            self.gives(True, is_work, (station,))
            self.gives(True, is_work, (0, station, 0))
            self.gives(True, is_work, (station, -1, station))

    def test_lengths(self):
        for length in range(64):
            self.gives(1 <= length <= 60, is_work, (0,) * length)

    def test_ends(self):
        self.gives(False, is_work, (-1,))
        self.gives(False, is_work, (-1, 0))
        self.gives(False, is_work, (0, -1))
        self.gives(False, is_work, (-1, 0, -1))
        self.gives(True, is_work, (0, -1, 0))

    def test_no_works(self):
        for thing in not_works():
            self.gives(False, is_work, thing)

    def test_bools_are_no_stations(self):
        for thing in ((True,), (False,), (True, 0), (0, True), (0, False, 0), (False, -1, 1), (1, -1, True)):
            self.gives(False, is_work, thing)

    def test_named(self):
        self.gives(True, is_work, thing=WORK)
        self.gives(False, is_work, thing=[0])


class Bars(Case):

    def test_example(self):
        self.gives((1, 5, 6), bars, WORK, WORK)

    def test_none(self):
        self.gives((), bars, (0,), (0,))
        self.gives((), bars, (0, 1, 2), (0, 1, 2))
        self.gives((), bars, (0, 1, 0), (2, 3, 2))

    def test_order(self):
        self.gives((1,), bars, (0, 1), (1, 0))
        self.gives((1,), bars, (1, 0), (0, 1))
        self.gives((2,), bars, (0, 1, 2), (2,))
        self.gives((), bars, (2,), (0, 1, 2))
        self.gives((), bars, (0, 1, 2), (0,))

    def test_a_piece_at_distance_none_is_no_bar(self):
        self.gives((), bars, (0, 1), (0, 1))

    def test_in_no_station_nothing_clashes(self):
        self.gives((3,), bars, (0, -1, -1, 0), (0, -1, -1, 0))

    def test_each_once(self):
        self.gives((1, 2), bars, (0, 0, 0), (0, 0, 0))
        self.gives((1, 2, 3), bars, (0, 0, 0, 0), (0, 0))

    def test_last(self):
        self.gives((59,), bars, (4,) + (-1,) * 58 + (4,), (4,) + (-1,) * 58 + (4,))
        self.gives(tuple(range(1, 60)), bars, (4,) * 60, (4,) * 60)
        self.gives((59,), bars, LONGEST, (9,))
        self.gives((), bars, (9,), LONGEST)

    def test_all_small_works(self):
        works = small_works(4, 2)
        for one, other in itertools.product(works, works):
            self.same(bars(one, other), bars_by_pieces(one, other))

    def test_other_works(self):
        works = random_works(11, 40) + random_works(12, 40, 12, 3) + random_works(13, 20, 60, 1)
        for one, other in itertools.product(works[::3], works[::2]):
            self.same(bars(one, other), bars_by_pieces(one, other))
        for work in works:
            self.gives(bars_by_pieces(work, work), bars, work, work)

    def test_backwards(self):
        for work in small_works(5, 2) + random_works(14, 60) + [WORK, LONGEST]:
            self.same(bars(work[::-1], work[::-1]), bars(work, work))

    def test_wrong(self):
        for thing in not_works():
            self.refuses(NoWork, bars, thing, WORK)
            self.refuses(NoWork, bars, WORK, thing)
            self.refuses(NoWork, bars, thing, thing)

    def test_named(self):
        self.gives((2,), bars, one=(0, 1, 2), other=(2,))
        self.gives((2,), bars, other=(2,), one=(0, 1, 2))
        self.gives((2,), bars, (0, 1, 2), other=(2,))
        self.refuses(NoWork, bars, one=(0,), other=[0])
        self.refuses(NoWork, bars, one=[0], other=(0,))


class MostVisits(Case):

    def test_some(self):
        self.gives(3, most_visits, WORK)
        self.gives(1, most_visits, (0,))
        self.gives(1, most_visits, LONGEST)
        self.gives(1, most_visits, (0, 1, 2, 3, 4, 5, 6, 7, 8, 9))
        self.gives(60, most_visits, (9,) * 60)
        self.gives(2, most_visits, (0, 9, 1, 9))
        self.gives(2, most_visits, (1, 0, 0, 1))
        self.gives(3, most_visits, (0, 1, 1, 0, 2, 2, 2))

    def test_ticks_at_no_station_do_not_count(self):
        self.gives(1, most_visits, (0, -1, -1, -1, 1))
        self.gives(2, most_visits, (5, -1, -1, -1, 5))

    def test_each_station(self):
        for station in range(10):
            others = tuple(other for other in range(10) if other != station)
            self.gives(2, most_visits, others + (station, -1, -1, -1, station))

    def test_other_works(self):
        for work in small_works(5, 2) + random_works(16, 60):
            counted = {}
            for station in work:
                counted[station] = counted.get(station, 0) + 1
            counted.pop(-1, None)
            self.gives(sorted(counted.values())[-1], most_visits, work)

    def test_wrong(self):
        for thing in not_works():
            self.refuses(NoWork, most_visits, thing)

    def test_named(self):
        self.gives(3, most_visits, work=WORK)
        self.refuses(NoWork, most_visits, work=None)


if __name__ == "__main__":
    unittest.main()
