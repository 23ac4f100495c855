"""Points [110] to [112]: lines that run."""

import itertools
import random
import time
import unittest

from startgaps.bests import best
from startgaps.errors import (
    Clash, GapError, NoKind, NoLap, NoLine, NoPace, NoStation, NothingDone, NoTicks, NoWork, TooMany, TooSoon,
)
from startgaps.feeders import Careful, CarefulPaced, Feeder, Paced
from startgaps.lines import Line
from startgaps.plans import clash, is_plan
from startgaps.works import bars
from tests.samples import (
    FAR_THREE, HUGE, LONGEST, WORK, Case, near_lines, nested, not_integers, not_lines, picture, random_works, two_visits,
)
from tests.table import Table, seen
from tests.test_laps import not_laps

ONE = Line(WORK)
TWO = Line((0, 0), (1, -1, 1))
FREE = Line((0,), (1,), (2,))
LONG = Line(LONGEST)
LAP = (-1, -1, -1, 0, -1, -1, 0)
PACES = (1, 2, 3, 7, 50)


class Stopped(Exception):
    """What tasks of trials raise."""


class Odd(NoWork):
    """An exception that is derived from one of the package."""


def all_kinds(line, pace=3):
    """Return a new feeder of each class."""
    return [Feeder(line), Careful(line), Paced(line, pace), CarefulPaced(line, pace)]


def other_feeders():
    """Return feeders that all differ."""
    return [Feeder(ONE), Careful(ONE), Paced(ONE, 3), Paced(ONE, 4), CarefulPaced(ONE, 3), CarefulPaced(ONE, 4), Feeder(TWO)]


def after_starts(feeder, *kinds):
    for kind in kinds:
        feeder.start(kind)
    return feeder


def not_ticks():
    return not_integers() + [0, -1, 101, 102, HUGE, -HUGE]


def not_stations():
    return not_integers() + [-1, 10, 11, HUGE, -HUGE]


class Feeding(Case):
    """A test case in which calls of feeders may change them."""

    def does(self, expected, call, *arguments, **named):
        """Expect a result of a call that is made once."""
        self.same(call(*arguments, **named), expected)

    def refuses_at(self, feeder, error, fields, call, *arguments):
        """Expect just this exception with these fields, twice, and that the feeder stays as it was."""
        before = seen(feeder)
        caught = self.refuses(error, call, *arguments)
        self.same(tuple(vars(caught).values()), fields)
        self.same(seen(feeder), before)


class Start(Feeding):

    def test_numbers_and_ticks(self):
        for feeder in (Feeder(TWO), Paced(TWO, 1)):
            for number, kind in enumerate((0, 0, 1, 0)):
                self.does(number, feeder.start, kind)
                self.same(feeder.now, number + 1)
            self.same(feeder.plan, ((0, 0), (1, 0), (2, 1), (3, 0)))

    def test_a_plain_feeder_refuses_no_clash(self):
        feeder = after_starts(Feeder(ONE), 0, 0)
        self.same(feeder.clashes, ((1, 0, 0, 1),))

    def test_wrong_kind(self):
        for feeder in all_kinds(TWO):
            for thing in not_integers() + [-1, 2, 3, HUGE, -HUGE]:
                self.refuses_at(feeder, NoKind, (), feeder.start, thing)

    def test_sixty_pieces_and_one_more(self):
        for feeder in all_kinds(FREE, 1):
            for number in range(60):
                self.does(number, feeder.start, number % 3)
            self.refuses_at(feeder, TooMany, (61, 60), feeder.start, 0)
            self.refuses_at(feeder, TooMany, (61, 60), feeder.feed, 0)
            self.refuses_at(feeder, NoKind, (), feeder.start, 3)
            self.refuses_at(feeder, NoKind, (), feeder.feed, -1)
            self.same((len(feeder.plan), feeder.now), (60, 60))

    def test_named(self):
        for feeder in all_kinds(TWO):
            self.does(0, feeder.start, kind=1)
            self.refuses(NoKind, feeder.start, kind=2)


class Wait(Feeding):

    def test_ticks(self):
        for feeder in all_kinds(TWO):
            now = 0
            for ticks in (1, 2, 99, 100, 1):
                self.does(None, feeder.wait, ticks)
                now += ticks
                self.same(feeder.now, now)
            self.same(feeder.plan, ())

    def test_no_ticks(self):
        for feeder in all_kinds(TWO):
            for thing in not_ticks():
                self.refuses_at(feeder, NoTicks, (), feeder.wait, thing)

    def test_named(self):
        for feeder in all_kinds(TWO):
            self.does(None, feeder.wait, ticks=100)
            self.same(feeder.now, 100)


class Feed(Feeding):

    def test_as_early_as_can_be(self):
        for feeder in (Feeder(ONE), Careful(ONE), Paced(ONE, 1)):
            for tick in (0, 2, 4, 11, 13, 15):
                self.does(tick, feeder.feed, 0)
                self.same(feeder.now, tick + 1)
            self.same(feeder.clashes, ())

    def test_with_a_pace(self):
        for feeder in (Paced(ONE, 3), CarefulPaced(ONE, 3)):
            for tick in (0, 3, 7, 10, 14):
                self.does(tick, feeder.feed, 0)

    def test_from_now_on(self):
        for feeder in all_kinds(ONE):
            feeder.wait(7)
            self.does(7, feeder.feed, 0)

    def test_at_shut_stations(self):
        feeder = Feeder(TWO)
        feeder.shut(0, 5)
        self.does(0, feeder.feed, 1)
        self.does(5, feeder.feed, 0)
        # A piece of kind 1 is at station 1 in its first tick and two ticks later.
        feeder.shut(1, 1)
        self.does(7, feeder.feed, 1)

    def test_between_what_is_shut(self):
        feeder = Feeder(Line((0, -1, 0)))
        feeder.wait(4)
        feeder.shut(0, 1)
        feeder.wait(2)
        feeder.undo()
        self.does(5, feeder.feed, 0)
        self.same(feeder.clashes, ())

    def test_shut_for_long(self):
        for feeder in all_kinds(ONE):
            feeder.shut(0, 100)
            self.does(100, feeder.feed, 0)

    def test_beside_pieces_that_clash(self):
        feeder = after_starts(Feeder(ONE), 0, 0, 0)
        self.assertTrue(feeder.clashes)
        before = feeder.clashes
        feeder.feed(0)
        self.same(feeder.clashes, before)

    def test_wrong_kind(self):
        for feeder in all_kinds(TWO):
            for thing in not_integers() + [-1, 2, 3, HUGE, -HUGE]:
                self.refuses_at(feeder, NoKind, (), feeder.feed, thing)

    def test_named(self):
        for feeder in all_kinds(ONE):
            self.does(0, feeder.feed, kind=0)


class Run(Feeding):

    def test_numbers(self):
        feeder = Feeder(ONE)
        self.does((0, 1), feeder.run, LAP)
        self.same((feeder.now, feeder.plan), (7, ((3, 0), (6, 0))))
        self.does((2, 3), feeder.run, LAP)
        self.same((feeder.now, feeder.plan), (14, ((3, 0), (6, 0), (10, 0), (13, 0))))
        self.same(feeder.clashes, ())

    def test_without_starts(self):
        for feeder in all_kinds(TWO):
            self.does((), feeder.run, (-1,))
            self.does((), feeder.run, (-1,) * 500)
            self.same((feeder.now, feeder.plan, feeder.changes), (501, (), 2))

    def test_one_item(self):
        for feeder in all_kinds(TWO):
            self.does((0,), feeder.run, (1,))
            self.same((feeder.now, feeder.plan), (1, ((0, 1),)))

    def test_a_lap_need_not_fit(self):
        feeder = Feeder(ONE)
        self.does((0, 1, 2), feeder.run, (0, 0, 0))
        self.same(feeder.clashes, ((1, 0, 0, 1), (2, 0, 1, 2)))

    def test_wrong_lap(self):
        for feeder in all_kinds(TWO):
            for thing in not_laps():
                self.refuses(NoLap, feeder.run, thing)
            self.same((feeder.now, feeder.plan, feeder.changes), (0, (), 0))

    def test_sixty_pieces_and_one_more(self):
        for feeder in all_kinds(FREE, 1):
            self.refuses_at(feeder, TooMany, (61, 60), feeder.run, (0, 1, 2, -1) * 20 + (0,))
            self.refuses_at(feeder, TooMany, (2000, 60), feeder.run, (0,) * 2000)
            self.does(tuple(range(60)), feeder.run, (0, 1, 2, -1) * 20)
            self.refuses_at(feeder, TooMany, (61, 60), feeder.run, (0,))
            self.refuses_at(feeder, TooMany, (63, 60), feeder.run, (-1, 0, -1, 1, 2))
            self.refuses_at(feeder, NoLap, (), feeder.run, (3,) * 90)
            self.does((), feeder.run, (-1, -1))
            self.same(feeder.now, 82)

    def test_if_a_start_is_refused_nothing_is_done(self):
        for feeder, error, fields in ((Careful(ONE), Clash, (6, 0)), (Paced(ONE, 3), TooSoon, (1,)),
                                      (CarefulPaced(ONE, 3), TooSoon, (1,)), (CarefulPaced(ONE, 2), Clash, (6, 0))):
            self.refuses_at(feeder, error, fields, feeder.run, (-1, 0, -1, 0, -1, -1, 0) if error is TooSoon
                            else (0, -1, -1, -1, -1, -1, 0))
            self.same((feeder.now, feeder.plan, feeder.changes), (0, (), 0))

    def test_named(self):
        for feeder in all_kinds(ONE):
            self.does((0, 1), feeder.run, lap=LAP)


class Shut(Feeding):

    def test_pieces_that_come_later(self):
        feeder = after_starts(Feeder(TWO), 1)
        feeder.shut(1, 2)
        self.same(feeder.clashes, ((2, 1, 0, -1),))
        feeder.start(1)
        self.same(feeder.clashes, ((1, 1, 1, -1), (2, 1, 0, -1)))

    def test_from_now_on(self):
        feeder = after_starts(Feeder(ONE), 0)
        feeder.shut(0, 1)
        self.same(feeder.clashes, ((1, 0, 0, -1),))
        feeder.undo()
        feeder.wait(1)
        feeder.shut(0, 4)
        self.same(feeder.clashes, ())
        feeder.shut(0, 5)
        self.same(feeder.clashes, ((6, 0, 0, -1),))

    def test_once_however_often_it_is_shut(self):
        feeder = after_starts(Feeder(ONE), 0)
        for _ in range(3):
            feeder.shut(0, 100)
        self.same(feeder.clashes, ((1, 0, 0, -1), (6, 0, 0, -1)))

    def test_ticks_and_stations(self):
        for feeder in all_kinds(FREE):
            for station, ticks in itertools.product(range(10), (1, 2, 99, 100)):
                self.does(None, feeder.shut, station, ticks)
            self.same((feeder.now, feeder.changes), (0, 40))
            self.same([feeder(kind) for kind in range(3)], [100, 100, 100])

    def test_no_station(self):
        for feeder in all_kinds(TWO):
            for thing in not_stations():
                for ticks in (1, 0, None, 101):
                    self.refuses_at(feeder, NoStation, (), feeder.shut, thing, ticks)

    def test_no_ticks(self):
        for feeder in all_kinds(TWO):
            for thing in not_ticks():
                self.refuses_at(feeder, NoTicks, (), feeder.shut, 0, thing)

    def test_named(self):
        for feeder in all_kinds(TWO):
            self.does(None, feeder.shut, station=0, ticks=4)
            self.does(None, feeder.shut, ticks=4, station=0)
            self.same(feeder(0), 4)


class Undo(Feeding):

    def test_on_a_new_feeder(self):
        for feeder in all_kinds(TWO):
            self.refuses_at(feeder, NothingDone, (), feeder.undo)

    def test_each_change_as_a_whole(self):
        for feeder in all_kinds(FREE, 2):
            states = [seen(feeder)]
            changes = [lambda: feeder.start(0), lambda: feeder.wait(100), lambda: feeder.feed(2),
                       lambda: feeder.run((-1, 1, -1, 2, -1, 0, -1)), lambda: feeder.shut(3, 40), lambda: feeder.run((-1,)),
                       lambda: feeder.shut(5, 1), lambda: feeder.feed(1), lambda: feeder.wait(1)]
            for change in changes:
                change()
                states.append(seen(feeder))
            self.same(feeder.changes, len(changes))
            while len(states) > 1:
                self.same(seen(feeder), states.pop())
                self.does(None, feeder.undo)
            self.same(seen(feeder), states.pop())
            self.refuses_at(feeder, NothingDone, (), feeder.undo)

    def test_shut_stations_are_open_again(self):
        for feeder in all_kinds(ONE):
            feeder.shut(0, 50)
            self.same(feeder(0), 50)
            feeder.undo()
            self.same(feeder(0), 0)
            self.assertEqual(feeder, all_kinds(ONE)[[Feeder, Careful, Paced, CarefulPaced].index(type(feeder))])

    def test_what_was_taken_back_is_gone(self):
        feeder = after_starts(Feeder(TWO), 0, 1)
        feeder.undo()
        self.does(1, feeder.start, 0)
        self.same(feeder.plan, ((0, 0), (1, 0)))
        feeder.undo()
        feeder.undo()
        self.refuses_at(feeder, NothingDone, (), feeder.undo)

    def test_refused_calls_are_no_changes(self):
        feeder = CarefulPaced(ONE, 3)
        feeder.start(0)
        for call in (lambda: feeder.start(0), lambda: feeder.start(1), lambda: feeder.wait(0), lambda: feeder.run((0, 0)),
                     lambda: feeder.shut(0, 9), lambda: feeder.shut(10, 1), lambda: feeder.feed(9)):
            self.assertRaises(GapError, call)
        self.same(feeder.changes, 1)
        feeder.undo()
        self.same((feeder.now, feeder.plan), (0, ()))

    def test_refused_by_none(self):
        # Going back leaves less than the pace to the start before, and stations shut: undo does it all the same.
        feeder = CarefulPaced(ONE, 50)
        feeder.start(0)
        feeder.wait(100)
        feeder.feed(0)
        for now in (101, 1, 0):
            feeder.undo()
            self.same(feeder.now, now)


class Trial(Feeding):

    def test_what_the_task_returns(self):
        for feeder in all_kinds(FREE):
            for thing in (None, 7, "text", (1, [2]), feeder):
                self.assertIs(feeder.trial(lambda _: thing), thing)
            self.same((feeder.now, feeder.changes), (0, 0))

    def test_the_task_is_called_with_the_feeder_itself(self):
        for feeder in all_kinds(FREE):
            self.assertIs(feeder.trial(lambda given: given), feeder)
            self.does(0, feeder.trial, lambda given: given.start(2))
            self.same((feeder.plan, feeder.changes), (((0, 2),), 1))

    def test_changes_stay_and_can_be_undone_one_by_one(self):
        for feeder in all_kinds(FREE):
            feeder.trial(lambda given: (given.start(0), given.wait(5), given.shut(1, 9)))
            self.same((feeder.changes, feeder.now, feeder(1)), (3, 6, 9))
            feeder.undo()
            self.same((feeder.changes, feeder.now, feeder(1)), (2, 6, 0))

    def test_behind_an_exception_all_is_as_it_was(self):
        for feeder in all_kinds(FREE):
            feeder.start(0)
            feeder.shut(2, 30)
            before = seen(feeder)
            for error in (Stopped("x"), KeyError(3), ValueError(), Odd(), KeyboardInterrupt(), ZeroDivisionError()):

                def task(given):
                    given.wait(3)
                    given.feed(1)
                    given.run((-1, -1, 0))
                    given.shut(1, 9)
                    given.undo()
                    given.undo()
                    raise error

                with self.assertRaises(type(error)) as caught:
                    feeder.trial(task)
                self.assertIs(caught.exception, error)
                self.same(seen(feeder), before)
            feeder.undo()
            self.same((feeder.changes, feeder(2)), (1, 2 if isinstance(feeder, Paced) else 0))

    def test_a_task_that_takes_back_what_was_before_it(self):
        for feeder in all_kinds(FREE):
            feeder.start(0)
            feeder.wait(9)
            feeder.shut(2, 30)
            before = seen(feeder)

            def task(given):
                for _ in range(3):
                    given.undo()
                given.shut(2, 60)
                given.start(1)
                given.undo()
                given.undo()
                given.undo()

            with self.assertRaises(NothingDone):
                feeder.trial(task)
            self.same(seen(feeder), before)
            for _ in range(3):
                feeder.undo()
            self.same(feeder.now, 0)

    def test_exceptions_of_the_feeder_itself(self):
        feeder = Careful(ONE)

        def task(given):
            given.start(0)
            given.start(0)

        with self.assertRaises(Clash) as caught:
            feeder.trial(task)
        self.same((caught.exception.tick, caught.exception.station), (1, 0))
        self.same((feeder.now, feeder.plan, feeder.changes), (0, (), 0))

    def test_a_trial_within_a_trial(self):
        for feeder in all_kinds(FREE, 1):
            feeder.start(0)

            def inner(given):
                given.start(2)
                given.shut(0, 100)
                raise Stopped("inner")

            def outer(given):
                given.start(1)
                middle = seen(given)
                with self.assertRaises(Stopped):
                    given.trial(inner)
                self.same(seen(given), middle)
                return given.start(0)

            self.does(2, feeder.trial, outer)
            self.same(feeder.plan, ((0, 0), (1, 1), (2, 0)))
            self.same(feeder.changes, 3)
            before = seen(feeder)

            def failing(given):
                given.wait(4)
                given.trial(lambda same: same.start(1))
                given.trial(inner)

            with self.assertRaises(Stopped) as caught:
                feeder.trial(failing)
            self.same(str(caught.exception), "inner")
            self.same(seen(feeder), before)

    def test_an_inner_trial_that_ends_and_an_outer_one_that_fails(self):
        for feeder in all_kinds(FREE, 1):

            def outer(given):
                given.trial(lambda same: (same.start(0), same.shut(1, 5)))
                self.same(given.changes, 2)
                raise Stopped()

            self.assertRaises(Stopped, feeder.trial, outer)
            self.same((feeder.now, feeder.plan, feeder.changes, feeder(1)), (0, (), 0, 0))

    def test_an_exception_that_the_task_handles(self):
        feeder = Careful(ONE)

        def task(given):
            given.start(0)
            try:
                given.start(0)
            except Clash:
                given.wait(1)
            return given.start(0)

        self.does(1, feeder.trial, task)
        self.same(feeder.plan, ((0, 0), (2, 0)))

    def test_another_feeder_in_a_task(self):
        one, other = Feeder(FREE), Feeder(FREE)

        def task(given):
            given.start(0)
            other.start(1)
            raise Stopped()

        self.assertRaises(Stopped, one.trial, task)
        self.same((one.plan, other.plan), ((), ((0, 1),)))

    def test_many_trials_within_one_another(self):
        feeder = Feeder(FREE)

        def task(given):
            given.wait(1)
            return given.trial(task) if given.now < 50 else given.now

        self.does(50, feeder.trial, task)

    def test_named(self):
        for feeder in all_kinds(FREE):
            self.does(5, feeder.trial, task=lambda given: 5)


class Seen(Feeding):

    def test_of_a_new_feeder(self):
        for feeder in all_kinds(TWO):
            self.assertIs(feeder.line, feeder.line)
            self.same((feeder.line, feeder.now, feeder.plan, feeder.clashes, feeder.changes), (TWO, 0, (), (), 0))
            self.same((len(feeder), [feeder[station] for station in range(10)]), (0, [()] * 10))
            self.same([feeder(kind) for kind in range(2)], [0, 0])

    def test_clashes_of_ticks_to_come(self):
        feeder = after_starts(Feeder(Line(two_visits(3, 50))), 0)
        feeder.wait(49)
        feeder.start(0)
        self.same(feeder.clashes, ((50, 3, 0, 1),))
        feeder.wait(30)
        self.same(feeder.clashes, ((50, 3, 0, 1),))

    def test_clashes_of_each_two_pieces(self):
        line = Line((0, 1, 2, 3), (1, 2, 3), (2, 3))
        feeder = after_starts(Feeder(line), 0, 1, 2)
        self.same(feeder.clashes, (
            (1, 1, 0, 1), (2, 2, 0, 1), (2, 2, 0, 2), (2, 2, 1, 2), (3, 3, 0, 1), (3, 3, 0, 2), (3, 3, 1, 2)))
        feeder.shut(3, 1)
        self.same(feeder.clashes[4:], (
            (3, 3, 0, -1), (3, 3, 0, 1), (3, 3, 0, 2), (3, 3, 1, -1), (3, 3, 1, 2), (3, 3, 2, -1)))

    def test_pieces_at_stations_now(self):
        feeder = after_starts(Feeder(TWO), 1, 0)
        self.same((feeder.now, feeder[0], feeder[1]), (2, (1,), (0,)))
        feeder.start(0)
        self.same((feeder.now, feeder[0], feeder[1]), (3, (2,), ()))
        line = Line((0, 1, 2, 3), (1, 2, 3), (2, 3))
        feeder = after_starts(Feeder(line), 0, 1, 2)
        self.same([feeder[station] for station in range(10)], [(), (), (), (0, 1, 2)] + [()] * 6)

    def test_no_station(self):
        for feeder in all_kinds(TWO):
            for thing in not_stations():
                self.refuses_at(feeder, NoStation, (), feeder.__getitem__, thing)

    def test_a_station_at_which_a_piece_is(self):
        for feeder in all_kinds(Line((0, 1, 0), (7,), (5, 5))):
            feeder.start(0)
            self.same([station for station in range(10) if station in feeder], [1])
            for thing in not_stations() + [1.5, feeder, ONE, (1,), [1], "1"]:
                self.assertIs(thing in feeder, False)
            self.assertIs(1 in feeder, True)
            self.assertIs(True in feeder, False)
            feeder.wait(1)
            self.assertIs(0 in feeder, True)
            self.assertIs(False in feeder, False)

    def test_pieces_under_way(self):
        feeder = after_starts(Feeder(Line((0,), (1, 2, 1))), 0)
        self.same(len(feeder), 0)
        feeder.start(1)
        self.same((feeder.now, len(feeder)), (2, 1))
        feeder.wait(1)
        self.same((feeder.now, len(feeder)), (3, 1))
        feeder.wait(1)
        self.same((feeder.now, len(feeder)), (4, 0))
        feeder = after_starts(Feeder(LONG), *[0] * 60)
        self.same((feeder.now, len(feeder)), (60, 59))
        feeder.wait(58)
        self.same(len(feeder), 1)
        feeder.wait(1)
        self.same(len(feeder), 0)

    def test_the_least_ticks_until_a_start(self):
        for feeder in all_kinds(ONE, 1):
            feeder.start(0)
            self.same(feeder(0), 1)
            self.same(feeder(0), 1)
            feeder.wait(4)
            self.same(feeder(0), 2)
            feeder.wait(2)
            feeder.shut(0, 9)
            self.same(feeder(0), 9)

    def test_no_kind(self):
        for feeder in all_kinds(TWO):
            for thing in not_integers() + [-1, 2, 3, HUGE, -HUGE]:
                self.refuses_at(feeder, NoKind, (), feeder, thing)

    def test_at_sixty_pieces(self):
        for feeder in all_kinds(Line((0, 0)), 2):
            for _ in range(60):
                feeder.feed(0)
            self.same(feeder(0), 1)
            self.same(len(feeder.plan), 60)

    def test_shown(self):
        for feeder in all_kinds(FREE, 1):
            name = type(feeder).__name__
            self.same(repr(feeder), name + "(tick 0, 0 pieces)")
            feeder.start(0)
            self.same(repr(feeder), name + "(tick 1, 1 pieces)")
            feeder.run((1, 2, -1, -1, -1, -1))
            self.same(repr(feeder), name + "(tick 7, 3 pieces)")
            self.same(str(feeder), name + "(tick 7, 3 pieces)")

    def test_named(self):
        for feeder in all_kinds(TWO):
            self.same(feeder(kind=1), 0)
            self.refuses(NoKind, feeder, kind=2)

    def test_properties_are_not_assigned(self):
        for feeder in all_kinds(TWO):
            for name in ("line", "now", "plan", "clashes", "changes"):
                self.assertRaises(AttributeError, setattr, feeder, name, 1)
        self.assertRaises(AttributeError, setattr, Paced(TWO, 2), "pace", 1)

    def test_asking_changes_nothing(self):
        for feeder in all_kinds(ONE, 2):
            feeder.start(0)
            feeder.shut(4, 7)
            self.same(seen(feeder), seen(feeder))


class Equal(Feeding):

    def test_by_class_line_and_pace(self):
        for (at, one), (other_at, other) in itertools.product(enumerate(other_feeders()), enumerate(other_feeders())):
            self.assertIs(one == other, at == other_at)
            self.assertIs(one != other, at != other_at)

    def test_of_equal_lines(self):
        self.assertIs(Feeder(Line(WORK)) == Feeder(Line(WORK)), True)
        self.assertIs(Feeder(Line(WORK)) == Feeder(Line(WORK, WORK)), False)

    def test_by_tick_and_plan(self):
        for one, other in zip(all_kinds(FREE, 1), all_kinds(FREE, 1)):
            one.wait(3)
            self.assertIs(one == other, False)
            other.wait(1)
            self.assertIs(one == other, False)
            other.wait(2)
            self.assertIs(one == other, True)
            one.start(1)
            other.start(2)
            self.assertIs(one == other, False)
            other.undo()
            other.run((1,))
            self.assertIs(one == other, True)

    def test_the_same_in_other_ways(self):
        one, other = Feeder(ONE), Feeder(ONE)
        one.run((-1, -1, 0, -1))
        other.wait(1)
        other.wait(1)
        self.assertIs(one == other, False)
        other.feed(0)
        other.wait(1)
        self.assertIs(one == other, True)
        self.assertNotEqual(one.changes, other.changes)

    def test_by_shut_stations_in_each_tick(self):
        one, other = Feeder(ONE), Feeder(ONE)
        one.shut(3, 5)
        self.assertIs(one == other, False)
        other.shut(3, 4)
        self.assertIs(one == other, False)
        other.shut(4, 1)
        self.assertIs(one == other, False)
        other.undo()
        other.shut(3, 5)
        self.assertIs(one == other, True)
        one.shut(3, 2)
        self.assertIs(one == other, True)
        one.shut(2, 9)
        other.shut(2, 9)
        self.assertIs(one == other, True)

    def test_shut_in_several_parts_and_in_another_order(self):
        one, other = Feeder(ONE), Feeder(ONE)
        one.shut(3, 10)
        one.shut(0, 5)
        one.wait(5)
        other.shut(0, 5)
        other.shut(3, 5)
        other.wait(5)
        self.assertIs(one == other, False)
        other.shut(3, 5)
        self.assertIs(one == other, True)

    def test_shut_in_ticks_that_are_past(self):
        one, other = Feeder(ONE), Feeder(ONE)
        one.shut(3, 5)
        one.wait(50)
        other.wait(50)
        self.assertIs(one == other, False)
        self.assertIs(other == one, False)
        one.undo()
        one.undo()
        one.wait(50)
        self.assertIs(one == other, True)

    def test_to_nothing_else(self):
        for feeder in all_kinds(ONE):
            for thing in not_lines() + [ONE, 0, 1, (), feeder.plan, repr(feeder), nested(20), [feeder], (feeder,), seen(feeder)]:
                self.assertIs(feeder == thing, False)
                self.assertIs(thing == feeder, False)
                self.assertIs(feeder != thing, True)
            self.assertIs(feeder == feeder, True)
            self.assertIs(ONE == feeder, False)

    def test_in_other_values(self):
        self.assertEqual((Feeder(ONE), [Paced(ONE, 2)]), (Feeder(ONE), [Paced(ONE, 2)]))
        self.assertNotEqual((Feeder(ONE), [Paced(ONE, 2)]), (Feeder(ONE), [Paced(ONE, 3)]))


class Made(Feeding):

    def test_classes(self):
        self.assertTrue(issubclass(Careful, Feeder))
        self.assertTrue(issubclass(Paced, Feeder))
        self.assertTrue(issubclass(CarefulPaced, Careful))
        self.assertTrue(issubclass(CarefulPaced, Paced))
        self.assertFalse(issubclass(Careful, Paced) or issubclass(Paced, Careful))

    def test_no_line(self):
        for thing in not_lines():
            self.refuses(NoLine, Feeder, thing)
            self.refuses(NoLine, Careful, thing)
            for pace in (1, 0, None):
                self.refuses(NoLine, Paced, thing, pace)
                self.refuses(NoLine, CarefulPaced, thing, pace)

    def test_no_pace(self):
        for thing in not_integers() + [0, -1, 51, 52, HUGE, -HUGE]:
            self.refuses(NoPace, Paced, ONE, thing)
            self.refuses(NoPace, CarefulPaced, ONE, thing)

    def test_paces(self):
        for pace in range(1, 51):
            self.same((Paced(ONE, pace).pace, CarefulPaced(ONE, pace).pace), (pace, pace))

    def test_a_plain_one_has_no_pace(self):
        self.assertFalse(hasattr(Feeder(ONE), "pace"))
        self.assertFalse(hasattr(Careful(ONE), "pace"))

    def test_named(self):
        self.same(seen(Feeder(line=ONE)), seen(Feeder(ONE)))
        self.same(seen(Careful(line=ONE)), seen(Careful(ONE)))
        self.assertEqual(Paced(pace=4, line=ONE), Paced(ONE, 4))
        self.assertEqual(CarefulPaced(line=ONE, pace=4), CarefulPaced(ONE, 4))
        self.refuses(NoPace, Paced, ONE, pace=True)

    def test_no_line_is_too_far(self):
        for feeder in all_kinds(Line(two_visits(3, 59), (3,) * 60, LONGEST)):
            self.does(0, feeder.feed, 0)
            self.does(60, feeder.feed, 1)


class CarefulOnes(Feeding):

    def test_a_start(self):
        for feeder in (Careful(ONE), CarefulPaced(ONE, 1)):
            self.does(0, feeder.start, 0)
            self.refuses_at(feeder, Clash, (1, 0), feeder.start, 0)
            feeder.wait(1)
            self.does(1, feeder.start, 0)
            feeder.wait(1)
            self.does(2, feeder.start, 0)
            self.refuses_at(feeder, Clash, (5, 0), feeder.start, 0)
            feeder.wait(1)
            self.refuses_at(feeder, Clash, (6, 0), feeder.start, 0)
            self.same(feeder.clashes, ())

    def test_the_first_clash_by_tick(self):
        feeder = Careful(Line((5, 4, 3, 2), (0, 3, 5, 2)))
        feeder.start(0)
        self.refuses_at(feeder, Clash, (2, 3), feeder.start, 1)

    def test_a_start_at_a_shut_station(self):
        for feeder in (Careful(TWO), CarefulPaced(TWO, 1)):
            feeder.shut(0, 3)
            feeder.shut(1, 1)
            self.refuses_at(feeder, Clash, (0, 0), feeder.start, 0)
            self.refuses_at(feeder, Clash, (0, 1), feeder.start, 1)
            feeder.wait(1)
            self.does(0, feeder.start, 1)
            self.refuses_at(feeder, Clash, (2, 0), feeder.start, 0)

    def test_a_station_that_is_shut_later(self):
        feeder = Careful(Line((0, 1, 2)))
        feeder.wait(2)
        feeder.shut(2, 1)
        for _ in range(2):
            feeder.undo()
        self.does(0, feeder.start, 0)

    def test_a_shutting(self):
        for feeder in (Careful(ONE), CarefulPaced(ONE, 1)):
            feeder.start(0)
            self.refuses_at(feeder, Clash, (1, 0), feeder.shut, 0, 1)
            self.refuses_at(feeder, Clash, (1, 0), feeder.shut, 0, 100)
            self.does(None, feeder.shut, 1, 100)
            feeder.wait(1)
            self.does(None, feeder.shut, 0, 4)
            self.refuses_at(feeder, Clash, (6, 0), feeder.shut, 0, 5)
            feeder.wait(5)
            self.does(None, feeder.shut, 0, 100)
            self.same(feeder.clashes, ())

    def test_a_run(self):
        for feeder in (Careful(ONE), CarefulPaced(ONE, 1)):
            self.refuses_at(feeder, Clash, (6, 0), feeder.run, (0, -1, -1, -1, -1, -1, 0))
            self.refuses_at(feeder, Clash, (3, 0), feeder.run, (-1, -1, 0, 0, -1, -1, 0, 0))
            self.does((0, 1), feeder.run, LAP)
            self.refuses_at(feeder, Clash, (9, 0), feeder.run, (-1, 0, 0))
            self.does((2, 3), feeder.run, LAP)

    def test_a_run_is_refused_by_its_first_start_that_is(self):
        # Of both starts of a run, each would bring a clash: the first one later than the second one, or sooner.
        feeder = Careful(Line((0,) + (-1,) * 8 + (1,), (1, 1)))
        feeder.wait(1)
        feeder.shut(1, 10)
        self.refuses_at(feeder, Clash, (10, 1), feeder.run, (0, 1))
        self.refuses_at(feeder, Clash, (1, 1), feeder.run, (1, 0))

    def test_others_come_first(self):
        for feeder in (Careful(FREE), CarefulPaced(FREE, 1)):
            feeder.run((0, 1, 2) * 20)
            feeder.shut(0, 100)
            self.refuses_at(feeder, TooMany, (61, 60), feeder.start, 0)
            self.refuses_at(feeder, TooMany, (62, 60), feeder.run, (0, 0))
            self.refuses_at(feeder, NoKind, (), feeder.start, 3)
            self.refuses_at(feeder, NoLap, (), feeder.run, (0, 3))
            self.refuses_at(feeder, NoStation, (), feeder.shut, 10, 0)
            self.refuses_at(feeder, NoTicks, (), feeder.shut, 2, 0)


class PacedOnes(Feeding):

    def test_a_start(self):
        for feeder in (Paced(FREE, 4), CarefulPaced(FREE, 4)):
            self.does(0, feeder.start, 0)
            for missing in (3, 2, 1):
                self.refuses_at(feeder, TooSoon, (missing,), feeder.start, 1)
                self.same([feeder(kind) for kind in range(3)], [missing] * 3)
                feeder.wait(1)
            self.does(1, feeder.start, 1)

    def test_a_pace_of_1(self):
        for feeder in (Paced(FREE, 1), CarefulPaced(FREE, 1)):
            self.does((0, 1, 2), feeder.run, (0, 1, 2))
            self.does(3, feeder.start, 0)

    def test_a_pace_of_50(self):
        for feeder in (Paced(FREE, 50), CarefulPaced(FREE, 50)):
            feeder.start(0)
            self.refuses_at(feeder, TooSoon, (49,), feeder.start, 0)
            feeder.wait(48)
            self.refuses_at(feeder, TooSoon, (1,), feeder.start, 0)
            self.does(50, feeder.feed, 0)
            self.does(100, feeder.feed, 1)

    def test_the_first_start_is_never_too_soon(self):
        for feeder in (Paced(FREE, 50), CarefulPaced(FREE, 50)):
            self.same(feeder(2), 0)
            self.does(0, feeder.start, 2)

    def test_a_run(self):
        for feeder in (Paced(FREE, 3), CarefulPaced(FREE, 3)):
            self.refuses_at(feeder, TooSoon, (2,), feeder.run, (0, 1))
            self.refuses_at(feeder, TooSoon, (1,), feeder.run, (0, -1, 1))
            self.does((0, 1), feeder.run, (0, -1, -1, 1))
            self.refuses_at(feeder, TooSoon, (2,), feeder.run, (0, -1, -1, -1, 1))
            self.refuses_at(feeder, TooSoon, (1,), feeder.run, (-1, 0))
            self.does((2, 3), feeder.run, (-1, -1, 0, -1, -1, 1))

    def test_a_plain_paced_one_refuses_no_clash(self):
        feeder = Paced(Line(two_visits(3, 2)), 2)
        feeder.start(0)
        feeder.wait(1)
        feeder.start(0)
        self.same(feeder.clashes, ((2, 3, 0, 1),))
        feeder.shut(3, 9)
        self.same(feeder.clashes, ((2, 3, 0, 1), (4, 3, 1, -1)))

    def test_feeding_waits_for_both(self):
        for feeder in (Paced(ONE, 5), CarefulPaced(ONE, 5)):
            feeder.start(0)
            self.same(feeder(0), 6)
            self.does(7, feeder.feed, 0)

    def test_too_soon_comes_before_a_clash(self):
        feeder = CarefulPaced(ONE, 3)
        feeder.start(0)
        self.refuses_at(feeder, TooSoon, (2,), feeder.start, 0)
        self.refuses_at(feeder, TooSoon, (2,), feeder.run, (0,))
        feeder.wait(4)
        self.refuses_at(feeder, Clash, (6, 0), feeder.start, 0)
        self.refuses_at(feeder, Clash, (6, 0), feeder.run, (0, 0))
        # The first start of this run clashes, the second one is too soon.
        self.refuses_at(feeder, Clash, (6, 0), feeder.run, (-1, 0, 0)[1:])
        self.refuses_at(feeder, TooSoon, (2,), feeder.run, (-1, -1, 0, 0))

    def test_others_come_first(self):
        for feeder in (Paced(FREE, 2), CarefulPaced(FREE, 2)):
            feeder.run((0, -1) * 59 + (0,))
            self.refuses_at(feeder, TooMany, (61, 60), feeder.start, 0)
            self.refuses_at(feeder, NoKind, (), feeder.start, -1)
            self.refuses_at(feeder, TooMany, (62, 60), feeder.run, (0, 0))
            self.refuses_at(feeder, NoLap, (), feeder.run, ())

    def test_behind_what_was_taken_back(self):
        for feeder in (Paced(FREE, 5), CarefulPaced(FREE, 5)):
            feeder.start(0)
            feeder.wait(4)
            feeder.start(0)
            feeder.undo()
            self.same(feeder(0), 0)
            feeder.undo()
            self.same(feeder(0), 4)


class ByTheTable(Feeding):

    def pairs(self, chance, line):
        """Return new feeders, each with its table."""
        pace = chance.choice(PACES)
        return [(Feeder(line), Table(line.works)), (Careful(line), Table(line.works, "Careful", careful=True)),
                (Paced(line, pace), Table(line.works, "Paced", pace)),
                (CarefulPaced(line, pace), Table(line.works, "CarefulPaced", pace, True))]

    def random_call(self, chance, line):
        kind = chance.randint(-1 if chance.random() < 0.05 else 0, len(line.works) - 1)
        name = chance.choice(["start", "start", "wait", "feed", "run", "shut", "undo"])
        lap = tuple(chance.choice([-1, -1, kind]) for _ in range(chance.randint(1, 8)))
        given = {"start": (kind,), "feed": (kind,), "wait": (chance.choice([1, 1, 2, 5, 0]),), "run": (lap,), "undo": (),
                 "shut": (chance.randint(0, 4 if chance.random() < 0.95 else 10), chance.choice([1, 2, 5, 30]))}
        return name, given[name]

    def outcome(self, owner, name, given):
        try:
            return "returns", picture(getattr(owner, name)(*given))
        except GapError as error:
            return type(error).__name__, vars(error)

    def test_random_changes(self):
        chance = random.Random(1501)
        outcomes = set()
        lines = near_lines(1501, 12) + [Line(*random_works(at, 1 + at % 3, 20, 5)) for at in range(12)]
        for line in lines:
            for feeder, table in self.pairs(chance, line):
                for _ in range(40):
                    name, given = self.random_call(chance, line)
                    expected = self.outcome(table, name, given)
                    self.assertEqual(self.outcome(feeder, name, given), expected)
                    self.same(seen(feeder), table.seen())
                    outcomes.add((name, expected[0]))
                self.assertTrue(is_plan(line, feeder.plan))
        for name in ("start", "run", "shut"):
            self.assertIn((name, "Clash"), outcomes)
        self.assertTrue(outcomes >= {("start", "TooSoon"), ("run", "TooSoon"), ("undo", "NothingDone"), ("wait", "NoTicks"),
                                     ("shut", "NoStation"), ("start", "NoKind"), ("feed", "NoKind")})

    def test_random_trials(self):
        chance = random.Random(1502)
        for line in near_lines(1502, 12):
            for feeder, table in self.pairs(chance, line):
                for _ in range(12):
                    calls = [self.random_call(chance, line) for _ in range(chance.randint(1, 6))]
                    fails = chance.random() < 0.5

                    def task(given):
                        for name, arguments in calls:
                            self.outcome(given, name, arguments)
                        if fails:
                            raise Stopped()

                    if fails:
                        self.assertRaises(Stopped, feeder.trial, task)
                    else:
                        self.does(None, feeder.trial, task)
                        task(table)
                    self.same(seen(feeder), table.seen())

    def test_equal_where_the_tables_are(self):
        chance = random.Random(1503)
        found = set()
        line = Line((0, 1), (1, -1, 0))
        for _ in range(150):
            feeders = []
            for feeder, table in self.pairs(chance, line)[:2] + self.pairs(chance, line)[:1]:
                for _ in range(chance.randint(0, 3)):
                    name = chance.choice(["wait", "shut", "start"])
                    given = {"wait": (1,), "shut": (chance.randint(0, 1), chance.randint(1, 2)), "start": (0,)}[name]
                    self.outcome(feeder, name, given)
                    self.outcome(table, name, given)
                feeders.append((feeder, (table.name, table.now, table.plan, table.closed)))
            for (one, key), (other, other_key) in itertools.combinations(feeders, 2):
                found.add(key == other_key)
                self.assertIs(one == other, key == other_key)
        self.assertEqual(found, {True, False})

    def test_sixty_pieces(self):
        began = time.perf_counter()
        for line in (Line((0,) * 60), Line(LONGEST, (3,) * 60, (5, 4) * 30)):
            feeder, table = Feeder(line), Table(line.works)
            for number in range(60):
                feeder.start(number % len(line.works))
                table.start(number % len(line.works))
            feeder.shut(3, 100)
            table.shut(3, 100)
            self.assertEqual(seen(feeder), table.seen())
        self.assertLess(time.perf_counter() - began, 30)


class WhatHolds(Feeding):

    def test_laps_that_fit_never_clash(self):
        chance = random.Random(1511)
        for line in near_lines(1511, 30) + [ONE, TWO, FAR_THREE]:
            lap = best(line, tuple(chance.randint(1, 20) for _ in line.works))[1]
            for feeder in (Feeder(line), Careful(line)):
                while len(feeder.plan) + len(lap) - lap.count(-1) <= 60:
                    feeder.run(lap)
                self.same(feeder.clashes, ())
                self.same(clash(line, feeder.plan), None)

    def test_clashes_and_the_first_clash_of_the_plan(self):
        chance = random.Random(1512)
        for line in near_lines(1512, 60):
            feeder = Feeder(line)
            for _ in range(8):
                feeder.run((chance.randint(-1, len(line.works) - 1),))
            self.same(min(feeder.clashes, default=None), clash(line, feeder.plan))


if __name__ == "__main__":
    unittest.main()
