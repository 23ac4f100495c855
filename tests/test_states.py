"""Point [30]: states, choices, and where they lead."""

import random
import unittest

from startgaps.errors import NoChoice, NoLine, NoPlan, NoState, NoTick, TooFar
from startgaps.laps import fits
from startgaps.lines import Line
from startgaps.states import after, choices, state_at, states
from tests.oracles import pieces_clash, state_by_pieces, states_by_choices
from tests.samples import (
    FAR_ONE, FAR_THREE, FAR_TWO, HUGE, LONGEST, WORK, Case, near_lines, nested, not_integers, not_lines, picture,
    random_works, too_far_lines, two_visits, with_each_item_replaced,
)

ONE = Line(WORK)
TWO = Line((0, 0), (1, -1, 1))
MIXED = Line((0, 1), (1, 0, 0))
FREE = Line((0,), (1,), (2,))
STARTED = ((0, 4, 5),)


def not_states():
    """Return values that are no states of ONE, of every kind and wrong in every place."""
    delays = not_integers() + [0, 1, -1, (1,), (5,), (0, 5), (4, 0, 5), (0, 4, 4, 5), (0, 4, 5, 6), (-1, 0, 4, 5), (6,),
                               [0, 4, 5], (0, 0, 0), tuple(range(1900)), ((0, 4, 5),), (HUGE,), (1, 2, 3, 4, 5)]
    numbers = not_integers() + [-1, -5, 6, HUGE, -HUGE]
    wrong = not_integers() + [0, 1, -1, HUGE, [()], [(0, 4, 5)], ([0, 4, 5],), (0, 4, 5), [0, 4, 5], ((0, 4, 5), ()),
                              ((), ()), ((0, 4, 5), (0, 4, 5)), ((),) * 2000, nested(20), (ONE,), "0 4 5", {0: ()}]
    wrong += [(thing,) for thing in delays]
    wrong += [(thing,) for thing in with_each_item_replaced((0, 4, 5), numbers)]
    # Some of the values of every kind are states after all: nothing barred, and the last delay alone.
    return [thing for thing in wrong if picture(thing) not in (picture(((),)), picture(((0,),)))]


class States(Case):

    def test_before_all_starts(self):
        for line, state in ((ONE, ((),)), (TWO, ((), ())), (MIXED, ((), ())), (FREE, ((), (), ()))):
            self.same(states(line)[0], state)

    def test_without_bars_there_is_one(self):
        self.gives((((),),), states, Line((0,)))
        self.gives((((),),), states, Line((0, 1, -1, 2)))
        self.gives((((), (), ()),), states, FREE)

    def test_of_one_work(self):
        self.gives((((),), ((0,),)), states, Line((3, 3)))
        self.gives((((),), ((0,),), ((0, 1),), ((1,),)), states, Line(two_visits(3, 2)))
        self.gives((((),), ((0,),), ((0, 1),)), states, Line((3, 3, 3)))

    def test_of_two_works(self):
        # Of MIXED, kind 0 bars (1,) and (1, 2) behind it, kind 1 bars () and (1,).
        self.same([MIXED(one, other) for one in (0, 1) for other in (0, 1)], [(), (1,), (1, 2), (1,)])
        self.gives((((), ()), ((), (0,)), ((0,), ()), ((0, 1), (0,))), states, MIXED)

    def test_one_start_then_nothing(self):
        for state in (((0, 4, 5),), ((3, 4),), ((2, 3),), ((1, 2),), ((0, 1),), ((0,),), ((),)):
            self.assertIn(state, states(ONE))

    def test_as_many_as_can_be(self):
        for line, amount in ((FAR_ONE, 256), (FAR_TWO, 243), (FAR_THREE, 1024)):
            found = states(line)
            self.same(len(found), amount)
            self.same(found, tuple(sorted(set(found))))

    def test_by_following_all_choices(self):
        lines = [ONE, TWO, MIXED, FREE, FAR_ONE, FAR_TWO] + near_lines(301, 120)
        for line in lines:
            self.gives(tuple(sorted(states_by_choices(line))), states, line)

    def test_too_far(self):
        for line, fields in too_far_lines():
            self.refuses_too_far(fields, states, line)

    def test_wrong_line(self):
        for thing in not_lines():
            self.refuses(NoLine, states, thing)

    def test_named(self):
        self.gives((((),), ((0,),)), states, line=Line((3, 3)))
        self.refuses(NoLine, states, line=None)


class Choices(Case):

    def test_before_all_starts(self):
        self.gives((-1, 0), choices, ONE, ((),))
        self.gives((-1, 0, 1), choices, TWO, ((), ()))
        self.gives((-1, 0, 1, 2), choices, FREE, ((), (), ()))
        self.gives((-1, 0, 1, 2), choices, FAR_THREE, ((), (), ()))

    def test_what_is_barred_now(self):
        self.gives((-1,), choices, ONE, ((0, 4, 5),))
        self.gives((-1, 0), choices, ONE, ((3, 4),))
        self.gives((-1, 1), choices, TWO, ((0,), ()))
        self.gives((-1, 0), choices, TWO, ((), (0,)))
        self.gives((-1, 0, 1), choices, TWO, ((), (1,)))
        self.gives((-1,), choices, TWO, ((0,), (0,)))

    def test_the_one_in_the_middle(self):
        self.gives((-1, 0, 2), choices, FAR_THREE, ((), (0,), ()))
        self.gives((-1, 0, 2), choices, FAR_THREE, ((1,), (0,), (2,)))

    def test_all_states(self):
        for line in [ONE, TWO, MIXED, FREE] + near_lines(302, 60):
            for state, (starts, now) in states_by_choices(line).items():
                expected = [kind for kind in range(len(line.works)) if not pieces_clash(line, starts + ((now, kind),))]
                self.gives((-1, *expected), choices, line, state)

    def test_wrong_state(self):
        for thing in not_states():
            self.refuses(NoState, choices, ONE, thing)

    def test_wrong_state_of_several_kinds(self):
        # Of these all but the part that is changed is as in a state.
        for line, state in ((TWO, ((0,), (0,))), (FAR_THREE, ((), (0,), (1,))), (FREE, ((), (), ()))):
            known = {picture(one) for one in states(line)}
            self.assertIn(picture(state), known)
            wrong = list(with_each_item_replaced(state, [None, True, 0, [], [0], [1], {}, "", (True,), (False,), (7,),
                                                         (None,), ((),), ((0,),), (0, True), line]))
            for at, delays in enumerate(state):
                wrong += [state[:at] + (list(delays),) + state[at + 1:], state[:at] + (delays + (0,),) + state[at + 1:]]
            for thing in wrong + [state[:-1], state + ((),), state[1:], list(state), (state,), state * 2]:
                if picture(thing) not in known:
                    self.refuses(NoState, choices, line, thing)
                    self.refuses(NoState, after, line, thing, -1)

    def test_states_that_no_choices_lead_to(self):
        self.refuses(NoState, choices, TWO, ((0, 1), ()))
        self.refuses(NoState, choices, TWO, ((0,), (0, 1, 2)))
        self.refuses(NoState, choices, MIXED, ((0,), (0,)))
        self.refuses(NoState, choices, MIXED, ((1,), ()))
        self.refuses(NoState, choices, FREE, ((0,), (), ()))
        self.refuses(NoState, choices, FREE, ((), ()))
        # After (0, 4, 5) there must be a wait, so a second start is at least two ticks away from the first one.
        self.refuses(NoState, choices, ONE, ((0, 3, 4, 5),))

    def test_all_that_look_like_states(self):
        for line in (Line((3, 3, 3)), Line(two_visits(3, 3)), Line((1, 1, -1, 1)), TWO, MIXED):
            known = set(states_by_choices(line))
            delays = [()]
            for delay in range(line.reach):
                delays += [known_delays + (delay,) for known_delays in delays]
            looks = [()]
            for _ in line.works:
                looks = [look + (added,) for look in looks for added in delays]
            self.assertLessEqual(known, set(looks))
            for look in looks:
                if look in known:
                    self.same(choices(line, look)[0], -1)
                else:
                    self.refuses(NoState, choices, line, look)

    def test_too_far(self):
        for line, fields in too_far_lines():
            self.refuses_too_far(fields, choices, line, ((),) * len(line.works))
            self.refuses_too_far(fields, choices, line, None)

    def test_wrong_line(self):
        for thing in not_lines():
            self.refuses(NoLine, choices, thing, ((),))
            self.refuses(NoLine, choices, thing, None)

    def test_named(self):
        self.gives((-1, 0), choices, line=ONE, state=((),))
        self.gives((-1, 0), choices, state=((),), line=ONE)
        self.refuses(NoState, choices, ONE, state=())


class After(Case):

    def test_starts_and_waits(self):
        self.gives(((),), after, ONE, ((),), -1)
        self.gives(STARTED, after, ONE, ((),), 0)
        self.gives(((3, 4),), after, ONE, STARTED, -1)
        self.gives(((2, 3),), after, ONE, ((3, 4),), -1)
        self.gives(((0, 2, 3, 4, 5),), after, ONE, ((3, 4),), 0)

    def test_each_kind_bars_each(self):
        self.gives(((), (0,)), after, MIXED, ((), ()), 0)
        self.gives(((0, 1), (0,)), after, MIXED, ((), ()), 1)
        self.gives(((0,), ()), after, TWO, ((), ()), 0)
        self.gives(((), (1,)), after, TWO, ((), ()), 1)
        self.gives(((0,), (0,)), after, TWO, ((), (1,)), 0)
        self.gives(((), (0, 1)), after, TWO, ((), (1,)), 1)

    def test_all_choices(self):
        for line in [ONE, TWO, MIXED, FREE] + near_lines(303, 40):
            known = states_by_choices(line)
            for state, (starts, now) in known.items():
                for choice in choices(line, state):
                    longer = starts if choice == -1 else starts + ((now, choice),)
                    expected = state_by_pieces(line, longer, now + 1)
                    self.gives(expected, after, line, state, choice)
                    self.assertIn(expected, known)

    def test_leads_to_all_states(self):
        for line in (FAR_ONE, FAR_TWO, Line((1, 1, -1, 1), (2, -1, -1, 1))):
            found = {((),) * len(line.works)}
            waiting = list(found)
            while waiting:
                state = waiting.pop()
                behind = {after(line, state, choice) for choice in choices(line, state)}
                waiting += behind - found
                found |= behind
            self.same(tuple(sorted(found)), states(line))

    def test_waiting_leads_back(self):
        for line in near_lines(304, 30):
            for state in states(line):
                for _ in range(line.reach):
                    state = after(line, state, -1)
                self.same(state, ((),) * len(line.works))

    def test_wrong_choice(self):
        for thing in not_integers() + [-2, 1, 2, -HUGE, HUGE, (-1,), [0], "-1"]:
            self.refuses(NoChoice, after, ONE, ((),), thing)
        for thing in not_integers() + [-2, 3, HUGE]:
            self.refuses(NoChoice, after, FREE, ((), (), ()), thing)

    def test_a_choice_that_clashes(self):
        self.refuses(NoChoice, after, ONE, STARTED, 0)
        self.refuses(NoChoice, after, TWO, ((0,), ()), 0)
        self.refuses(NoChoice, after, TWO, ((), (0,)), 1)
        self.refuses(NoChoice, after, MIXED, ((0, 1), (0,)), 0)
        self.refuses(NoChoice, after, MIXED, ((0, 1), (0,)), 1)

    def test_wrong_state(self):
        for thing in not_states():
            self.refuses(NoState, after, ONE, thing, -1)
            self.refuses(NoState, after, ONE, thing, None)

    def test_too_far(self):
        for line, fields in too_far_lines():
            self.refuses_too_far(fields, after, line, ((),) * len(line.works), -1)
            self.refuses_too_far(fields, after, line, None, True)

    def test_wrong_line(self):
        for thing in not_lines():
            self.refuses(NoLine, after, thing, ((),), -1)
            self.refuses(NoLine, after, thing, None, None)

    def test_named(self):
        self.gives(STARTED, after, line=ONE, state=((),), choice=0)
        self.gives(STARTED, after, choice=0, state=((),), line=ONE)
        self.refuses(NoChoice, after, ONE, choice=True, state=((),))


class StateAt(Case):

    def test_before_and_behind_a_start(self):
        plan = ((3, 0),)
        for tick in range(4):
            self.gives(((),), state_at, ONE, plan, tick)
        self.gives(STARTED, state_at, ONE, plan, 4)
        self.gives(((3, 4),), state_at, ONE, plan, 5)
        self.gives(((0,),), state_at, ONE, plan, 9)
        for tick in (10, 11, 50, HUGE):
            self.gives(((),), state_at, ONE, plan, tick)

    def test_a_start_in_this_tick_or_later_bars_nothing(self):
        self.gives(STARTED, state_at, ONE, ((0, 0), (1, 0)), 1)
        self.gives(((0, 3, 4, 5),), state_at, ONE, ((0, 0), (1, 0)), 2)
        self.gives(((), ()), state_at, TWO, ((1, 0), (2, 1)), 1)
        self.gives(((0,), ()), state_at, TWO, ((1, 0), (2, 1)), 2)

    def test_no_starts(self):
        for line in (ONE, TWO, FREE, Line(LONGEST)):
            for tick in (0, 1, 70, HUGE):
                self.gives(((),) * len(line.works), state_at, line, (), tick)

    def test_pieces_that_clash(self):
        self.gives(((0, 1, 2, 3, 4, 5),), state_at, ONE, ((0, 0), (1, 0), (2, 0), (3, 0)), 4)
        self.assertNotIn(((0, 3, 4, 5),), states(ONE))

    def test_no_line_is_too_far(self):
        self.gives((tuple(range(59)),), state_at, Line((0,) * 60), ((0, 0),), 1)
        self.gives(((58,),), state_at, Line(two_visits(0, 59)), ((0, 0),), 1)
        self.gives(((0,),), state_at, Line(two_visits(0, 59)), ((0, 0),), 59)
        self.gives(((),), state_at, Line(two_visits(0, 59)), ((0, 0),), 60)
        for line, _ in too_far_lines():
            self.gives(state_by_pieces(line, ((5, 0),), 7), state_at, line, ((5, 0),), 7)

    def test_large_ticks(self):
        self.gives(STARTED, state_at, ONE, ((0, 0), (HUGE - 1, 0)), HUGE)
        self.gives(((),), state_at, ONE, ((HUGE, 0),), HUGE)

    def test_other_plans(self):
        chance = random.Random(305)
        lines = near_lines(305, 60) + [Line(*random_works(at, 1 + at % 3, 30, 4)) for at in range(40)]
        for line in lines:
            ticks = sorted(chance.sample(range(40), chance.randint(0, 12)))
            plan = tuple((tick, chance.randrange(len(line.works))) for tick in ticks)
            for tick in (0, 1, 5, 17, 39, 40, 44, 75, 99, 101):
                self.gives(state_by_pieces(line, plan, tick), state_at, line, plan, tick)

    def test_as_after_the_choices_of_the_plan(self):
        chance = random.Random(306)
        for line in near_lines(306, 40):
            state, plan = ((),) * len(line.works), ()
            for tick in range(30):
                self.same(state_at(line, plan, tick), state)
                choice = chance.choice(choices(line, state))
                plan += () if choice == -1 else ((tick, choice),)
                state = after(line, state, choice)
            self.same(state_at(line, plan, 30), state)

    def test_sixty_starts(self):
        plan = tuple((2 * at, 0) for at in range(60))
        self.gives(((0, 2, 3, 4, 5),), state_at, ONE, plan, 3)
        self.refuses(NoPlan, state_at, ONE, plan + ((200, 0),), 3)

    def test_wrong_tick(self):
        for thing in not_integers() + [-1, -2, -HUGE, (0,), "1"]:
            self.refuses(NoTick, state_at, ONE, ((0, 0),), thing)

    def test_wrong_plan(self):
        wrong = [None, True, 0, [], [(0, 0)], ([0, 0],), ((0, 1),), ((0, True),), ((True, 0),), ((-1, 0),), "none",
                 ((1, 0), (0, 0)), ((0, 0), (0, 0)), ((0, 0), None), (0, 0), ONE, nested(20), ((0,),), ((0, 0, 0),)]
        for thing in wrong:
            self.refuses(NoPlan, state_at, ONE, thing, 0)
            self.refuses(NoPlan, state_at, ONE, thing, None)
            self.refuses(NoPlan, state_at, ONE, thing, -1)

    def test_wrong_line(self):
        for thing in not_lines():
            self.refuses(NoLine, state_at, thing, (), 0)
            self.refuses(NoLine, state_at, thing, None, None)

    def test_named(self):
        self.gives(STARTED, state_at, line=ONE, plan=((0, 0),), tick=1)
        self.gives(STARTED, state_at, tick=1, plan=((0, 0),), line=ONE)
        self.refuses(NoTick, state_at, ONE, (), tick=True)


class Together(Case):

    def test_returned_states_may_be_passed_back(self):
        for line in near_lines(307, 15):
            for state in states(line):
                self.assertIn(after(line, state, choices(line, state)[-1]), states(line))
        self.refuses(NoState, choices, ONE, states(ONE))
        self.refuses(NoState, choices, ONE, list(states(ONE)[1]))
        self.refuses(NoState, choices, ONE, states(ONE)[1] + ((),))
        self.refuses(NoState, choices, ONE, states(ONE)[1][0])

    def test_lines_that_are_equal_have_equal_states(self):
        self.same(states(Line(WORK)), states(ONE))
        self.same(states(-Line(WORK)), states(ONE))

    def test_a_lap_that_fits_can_be_chosen_from_an_empty_line_on(self):
        line, lap = Line(WORK), (-1, -1, -1, 0, -1, -1, 0)
        self.assertTrue(fits(line, lap))
        state = ((),)
        for choice in lap * 6:
            self.assertIn(choice, choices(line, state))
            state = after(line, state, choice)

    def test_a_refused_call_changes_nothing(self):
        line = Line(WORK)
        before = states(line)
        with self.assertRaises(NoState):
            choices(line, ((6,),))
        with self.assertRaises(NoChoice):
            after(line, ((),), 7)
        with self.assertRaises(TooFar):
            states(Line((0,) * 60))
        self.same(states(line), before)


if __name__ == "__main__":
    unittest.main()
