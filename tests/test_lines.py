"""Point [12]: the class Line."""

import itertools
import unittest

from startgaps.errors import GapError, NoKind, NoLine, NoWork, OnlyOne
from startgaps.lines import Line
from startgaps.works import bars
from tests.samples import LONGEST, WORK, Case, nested, not_integers, not_lines, not_works, random_works, small_works

FIRST = (0, 1, 2)
SECOND = (2, -1, 0)
THIRD = (1, 1)
HUGE = 10 ** 12


def wrong_kinds(line):
    """Return values of every kind that are not the number of a work of the line."""
    amount = len(line.works)
    return not_integers() + [-1, -2, -amount, amount, amount + 1, HUGE, -HUGE]


def item(line, kind):
    return line[kind]


def added(one, other):
    return one + other


def without(line, kind):
    return line - kind


def negative(line):
    return -line


class Making(Case):

    def test_one_to_three_works(self):
        for works in ((FIRST,), (FIRST, SECOND), (FIRST, SECOND, THIRD)):
            line = Line(*works)
            self.same(line.works, works)
            self.gives(len(works), len, line)

    def test_the_same_work_several_times(self):
        self.same(Line(WORK, WORK, WORK).works, (WORK, WORK, WORK))
        self.same(Line(WORK, FIRST, WORK).works, (WORK, FIRST, WORK))

    def test_none(self):
        self.refuses(NoWork, Line)

    def test_four(self):
        self.refuses_too_many(4, 3, Line, FIRST, FIRST, FIRST, FIRST)
        self.refuses_too_many(5, 3, Line, FIRST, SECOND, THIRD, WORK, LONGEST)
        self.refuses_too_many(70, 3, Line, *[FIRST] * 70)

    def test_wrong_at_each_place(self):
        for thing in not_works():
            self.refuses(NoWork, Line, thing)
            self.refuses(NoWork, Line, thing, FIRST)
            self.refuses(NoWork, Line, FIRST, thing)
            self.refuses(NoWork, Line, FIRST, SECOND, thing)

    def test_a_wrong_work_comes_before_too_many(self):
        for at in range(4):
            works = [FIRST, SECOND, THIRD, WORK]
            for thing in (None, [0], (True,), (-1, 0), Line(FIRST)):
                works[at] = thing
                self.refuses(NoWork, Line, *works)
        self.refuses(NoWork, Line, None, None, None, None)
        self.refuses(NoWork, Line, FIRST, FIRST, FIRST, FIRST, FIRST, FIRST, None)

    def test_a_tuple_of_works_is_no_work(self):
        self.refuses(NoWork, Line, (FIRST, SECOND))
        self.refuses(NoWork, Line, [FIRST, SECOND])


class Reading(Case):

    def test_works_and_reach(self):
        line = Line(WORK)
        self.same((line.works, line.reach), ((WORK,), 6))
        self.same((line.works, line.reach), ((WORK,), 6))

    def test_reach(self):
        self.same(Line((0,)).reach, 0)
        self.same(Line(FIRST).reach, 0)
        self.same(Line(FIRST, (3, 4)).reach, 0)
        self.same(Line((0, 0)).reach, 1)
        self.same(Line((4,) * 60).reach, 59)
        self.same(Line((4,) + (-1,) * 58 + (4,)).reach, 59)

    def test_reach_of_two_different_works(self):
        self.same(Line((0, 1, 2), (2,)).reach, 2)
        self.same(Line((2,), (0, 1, 2)).reach, 2)
        self.same(Line((5,), LONGEST, (9,)).reach, 59)
        self.same(Line((9,), (5,), LONGEST).reach, 59)
        self.same(Line(LONGEST, (9,), (5,)).reach, 59)

    def test_reach_of_a_work_with_itself(self):
        for at in range(3):
            works = [(3, 3), (4, 4), (5, 5)]
            works[at] = (0, -1, -1, 0)
            self.same(Line(*works).reach, 3)
        self.same(Line(FIRST, FIRST).reach, 0)

    def test_item(self):
        line = Line(FIRST, SECOND, THIRD)
        for kind, work in enumerate((FIRST, SECOND, THIRD)):
            self.gives(work, item, line, kind)
        self.gives(FIRST, item, Line(FIRST), 0)

    def test_wrong_item(self):
        for line in (Line(FIRST), Line(FIRST, SECOND), Line(FIRST, SECOND, THIRD)):
            for thing in wrong_kinds(line):
                self.refuses(NoKind, item, line, thing)

    def test_bars_of_kinds(self):
        line = Line((0, 1, 2), (2,), WORK)
        self.gives((2,), line, 0, 1)
        self.gives((), line, 1, 0)
        self.gives((1, 5, 6), line, 2, 2)
        self.gives((), line, 0, 0)

    def test_bars_of_kinds_as_bars_of_works(self):
        works = random_works(21, 12) + random_works(22, 12, 8, 2)
        for three in zip(works, works[1:], works[5:]):
            line = Line(*three)
            reach = 0
            for one, other in itertools.product(range(3), repeat=2):
                expected = bars(three[one], three[other])
                self.same(line(one, other), expected)
                reach = max(reach, *expected, 0)
            self.same(line.reach, reach)

    def test_wrong_bars_of_kinds(self):
        for line in (Line(FIRST), Line(FIRST, SECOND), Line(FIRST, SECOND, THIRD)):
            for thing in wrong_kinds(line):
                self.refuses(NoKind, line, thing, 0)
                self.refuses(NoKind, line, 0, thing)
                self.refuses(NoKind, line, thing, thing)

    def test_bars_of_kinds_named(self):
        line = Line((0, 1, 2), (2,))
        self.gives((2,), line, one=0, other=1)
        self.gives((2,), line, other=1, one=0)
        self.gives((2,), line, 0, other=1)
        self.refuses(NoKind, line, one=2, other=0)
        self.refuses(NoKind, line, one=0, other=True)

    def test_repr(self):
        self.gives("Line(1 works)", repr, Line(WORK))
        self.gives("Line(2 works)", repr, Line(WORK, WORK))
        self.gives("Line(3 works)", repr, Line(WORK, FIRST, WORK))


class Changing(Case):

    def test_add(self):
        self.gives(Line(FIRST, SECOND), added, Line(FIRST), Line(SECOND))
        self.gives(Line(SECOND, FIRST), added, Line(SECOND), Line(FIRST))
        self.gives(Line(FIRST, SECOND, THIRD), added, Line(FIRST), Line(SECOND, THIRD))
        self.gives(Line(FIRST, SECOND, THIRD), added, Line(FIRST, SECOND), Line(THIRD))
        self.gives(Line(WORK, WORK), added, Line(WORK), Line(WORK))

    def test_add_too_many(self):
        lines = [Line(FIRST), Line(FIRST, SECOND), Line(FIRST, SECOND, THIRD)]
        for one, other in itertools.product(lines, repeat=2):
            amount = len(one.works) + len(other.works)
            if amount > 3:
                self.refuses_too_many(amount, 3, added, one, other)
            else:
                self.gives(Line(*one.works, *other.works), added, one, other)

    def test_add_what_is_no_line(self):
        for line in (Line(FIRST), Line(FIRST, SECOND, THIRD)):
            for thing in not_lines():
                self.refuses(NoLine, added, line, thing)
                self.refuses(NoLine, added, thing, line)

    def test_take_away(self):
        line = Line(FIRST, SECOND, THIRD)
        self.gives(Line(SECOND, THIRD), without, line, 0)
        self.gives(Line(FIRST, THIRD), without, line, 1)
        self.gives(Line(FIRST, SECOND), without, line, 2)
        self.gives(Line(SECOND), without, Line(FIRST, SECOND), 0)
        self.gives(Line(FIRST), without, Line(FIRST, SECOND), 1)

    def test_take_away_one_of_the_same(self):
        self.gives(Line(WORK, FIRST), without, Line(WORK, WORK, FIRST), 0)
        self.gives(Line(WORK, FIRST), without, Line(WORK, FIRST, WORK), 2)

    def test_take_away_wrong(self):
        for line in (Line(FIRST), Line(FIRST, SECOND), Line(FIRST, SECOND, THIRD)):
            for thing in wrong_kinds(line):
                self.refuses(NoKind, without, line, thing)

    def test_take_away_the_only_one(self):
        self.refuses(OnlyOne, without, Line(FIRST), 0)
        self.refuses(NoKind, without, Line(FIRST), 1)
        self.refuses(NoKind, without, Line(FIRST), False)

    def test_backwards(self):
        self.gives(Line((2, 1, 0)), negative, Line((0, 1, 2)))
        self.gives(Line((2, 1, 0), (0, -1, 2), (1, 1)), negative, Line(FIRST, SECOND, THIRD))
        self.gives(Line((0, -1, -1, -1, -1, 0, 0)), negative, Line(WORK))

    def test_backwards_twice(self):
        for work in random_works(23, 20):
            self.same(-(-Line(work, FIRST)), Line(work, FIRST))

    def test_backwards_has_the_same_bars(self):
        for work in small_works(5, 2) + random_works(24, 40):
            line = Line(work)
            self.same((-line)(0, 0), line(0, 0))
            self.same((-line).reach, line.reach)

    def test_a_line_does_not_change(self):
        line = Line(FIRST, SECOND)
        bigger, smaller, turned = line + Line(THIRD), line - 0, -line
        self.refuses(NoKind, without, line, 5)
        self.refuses_too_many(4, 3, added, line, line)
        self.same(line, Line(FIRST, SECOND))
        self.same(line(0, 1), bars(FIRST, SECOND))
        self.same(bigger - 2, line)
        self.same((smaller, turned), (Line(SECOND), Line(FIRST[::-1], SECOND[::-1])))

    def test_its_properties_are_only_read(self):
        line = Line(FIRST)
        for name in ("works", "reach"):
            with self.assertRaises(AttributeError):
                setattr(line, name, 0)
        self.same(line, Line(FIRST))


class Equal(Case):

    def test_equal(self):
        for works in ((FIRST,), (FIRST, SECOND), (FIRST, SECOND, THIRD), (WORK, WORK)):
            self.assertIs(Line(*works) == Line(*works), True)
            self.assertIs(Line(*works) != Line(*works), False)

    def test_not_equal(self):
        lines = [Line(FIRST), Line(SECOND), Line(FIRST, SECOND), Line(SECOND, FIRST), Line(FIRST, FIRST),
                 Line(FIRST, SECOND, THIRD), Line(FIRST, SECOND, FIRST), Line(FIRST, FIRST, FIRST), Line((0, 1, 3))]
        for one, other in itertools.permutations(lines, 2):
            self.assertIs(one == other, False)
            self.assertIs(one != other, True)

    def test_lines_that_are_alike_in_their_bars_differ(self):
        self.assertIs(Line((0,)) == Line((1,)), False)
        self.assertIs(Line(WORK) == -Line(WORK), False)

    def test_equal_to_nothing_else(self):
        for line in (Line((0,)), Line((1,)), Line(WORK), Line(FIRST, SECOND)):
            others = not_lines() + [line.works, list(line.works), line.works[0], repr(line), len(line), nested(3, line)]
            for thing in others + [GapError(), NoLine("x")]:
                self.assertIs(line == thing, False)
                self.assertIs(thing == line, False)
                self.assertIs(line != thing, True)


if __name__ == "__main__":
    unittest.main()
