"""The names, places and arguments of the interface, and the session of [1]."""

import ast
import doctest
import importlib
import inspect
import pathlib
import unittest

from startgaps.bests import best, prices, shows_best
from startgaps.errors import GapError
from startgaps.feeders import Feeder
from startgaps.fulls import is_full
from startgaps.laps import fits, mean
from startgaps.lines import Line
from startgaps.orders import early, soonest, soonest_of
from startgaps.plans import clash, is_plan
from startgaps.rates import is_under, rates, shows_rates
from startgaps.singles import bounds, constants, gap, greedy, is_greedy_best
from startgaps.states import after, choices, state_at, states
from startgaps.turns import in_turn
from startgaps.waits import shows_stretch, stretch, stretched, trade
from startgaps.works import bars, is_work, most_visits
from tests.samples import WORK, Case

TWO = Line((0, 1, 1), (1, -1, 0))
ROOT = pathlib.Path(__file__).resolve().parent.parent
FUNCTIONS = {
    "startgaps.works": {"is_work": ["thing"], "bars": ["one", "other"], "most_visits": ["work"]},
    "startgaps.plans": {"is_plan": ["line", "thing"], "clash": ["line", "plan"]},
    "startgaps.orders": {
        "early": ["line", "kinds"], "soonest": ["line", "kinds"], "soonest_of": ["line", "counts"],
    },
    "startgaps.states": {
        "choices": ["line", "state"], "after": ["line", "state", "choice"], "states": ["line"],
        "state_at": ["line", "plan", "tick"],
    },
    "startgaps.laps": {"fits": ["line", "lap"], "mean": ["line", "lap", "worths"]},
    "startgaps.bests": {
        "best": ["line", "worths"], "prices": ["line", "worths"], "shows_best": ["line", "worths", "thing"],
    },
    "startgaps.singles": {
        "gap": ["work"], "constants": ["work"], "greedy": ["work"], "bounds": ["work"], "is_greedy_best": ["work"],
    },
    "startgaps.turns": {"in_turn": ["line", "kinds"]},
    "startgaps.waits": {
        "stretched": ["work", "waits"], "stretch": ["work", "distance"],
        "shows_stretch": ["work", "distance", "thing"], "trade": ["work"],
    },
    "startgaps.rates": {"rates": ["line"], "is_under": ["line", "pair"], "shows_rates": ["line", "thing"]},
    "startgaps.fulls": {"open_ticks": ["line", "lap"], "is_full": ["line", "lap"], "sparsest": ["line"]},
    "startgaps.likes": {"work_with": ["distances"], "alike": ["one", "other"]},
    "startgaps.texts": {
        "work_text": ["work"], "lap_text": ["line", "lap"], "line_text": ["line"], "plan_text": ["line", "plan"],
        "read_work": ["text"], "read_lap": ["text"], "read_line": ["text"], "read_plan": ["text"],
    },
}
# What is raised where nothing is right, by the function; all others take a line first.
FIRST = dict.fromkeys(("bars", "most_visits", "gap", "constants", "greedy", "bounds", "is_greedy_best", "stretched",
                       "stretch", "shows_stretch", "trade", "work_text"), "NoWork")
FIRST.update(dict.fromkeys(("read_work", "read_lap", "read_line", "read_plan"), "NoText"), work_with="NoBars")
# The arguments of the methods; a property has none.
FEEDER = {
    "__init__": ["line"], "line": None, "now": None, "plan": None, "clashes": None, "changes": None, "start": ["kind"],
    "wait": ["ticks"], "feed": ["kind"], "run": ["lap"], "shut": ["station", "ticks"], "undo": [], "trial": ["task"],
    "__call__": ["kind"], "__getitem__": ["station"], "__len__": [], "__contains__": ["thing"], "__eq__": ["other"],
    "__repr__": [],
}
METHODS = {
    "startgaps.lines": {
        "Line": {
            "__init__": ["works"], "works": None, "reach": None, "__getitem__": ["at"], "__call__": ["one", "other"],
            "__len__": [], "__add__": ["other"], "__sub__": ["other"], "__neg__": [], "__eq__": ["other"], "__repr__": [],
        },
    },
    "startgaps.feeders": {
        "Feeder": FEEDER, "Careful": FEEDER, "Paced": {**FEEDER, "__init__": ["line", "pace"], "pace": None},
        "CarefulPaced": {**FEEDER, "__init__": ["line", "pace"], "pace": None},
    },
}


def defined_in(module):
    """Return the statements that define functions and classes at the top of the module's file."""
    path = ROOT / (module.replace(".", "/") + ".py")
    found = ast.parse(path.read_text(encoding="utf-8")).body
    return {part.name: part for part in found if isinstance(part, (ast.FunctionDef, ast.ClassDef))}


class Interface(Case):

    def test_functions_stand_in_their_files(self):
        for module, functions in FUNCTIONS.items():
            for name, arguments in functions.items():
                with self.subTest(name):
                    self.assertIsInstance(defined_in(module)[name], ast.FunctionDef)
                    function = getattr(importlib.import_module(module), name)
                    self.assertEqual(list(inspect.signature(function).parameters), arguments)

    def test_classes_and_their_methods_stand_in_their_files(self):
        for module, classes in METHODS.items():
            for name, methods in classes.items():
                body = defined_in(module)[name].body
                found = [part.name for part in body if isinstance(part, ast.FunctionDef)]
                made = getattr(importlib.import_module(module), name)
                for method, arguments in methods.items():
                    self.assertIn(method, found)
                    defined = vars(made)[method]
                    self.assertEqual(isinstance(defined, property), arguments is None)
                    if arguments is not None:
                        self.assertEqual(list(inspect.signature(defined).parameters), ["self", *arguments])

    def test_session(self):
        self.gives((1, 5, 6), bars, WORK, WORK)
        self.same(Line(WORK)(0, 0), (1, 5, 6))
        self.same((Line(WORK).works, Line(WORK).reach), ((WORK,), 6))
        self.gives(((2, 7), (-1, -1, -1, 0, -1, -1, 0)), best, Line(WORK), (1,))
        self.same((gap(WORK), greedy(WORK)), ((7, 2), ((), (2, 2, 7))))
        self.gives((1, 0, 0, 0, 0, 0), stretch, WORK, 3)

    def test_a_piece_of_the_session(self):
        line = Line(WORK)
        self.same(tuple(at for at, station in enumerate(WORK) if station == 0), (0, 1, 6))
        for distance in range(1, 12):
            self.same(clash(line, ((0, 0), (distance, 0))) is not None, distance in (1, 5, 6))

    def test_starts_as_soon_as_possible_do_not_clash(self):
        ticks = (0, 2, 4, 11, 13, 15, 22)
        self.gives(None, clash, Line(WORK), tuple((tick, 0) for tick in ticks))
        self.gives(tuple((tick, 0) for tick in ticks), early, Line(WORK), (0,) * 7)
        self.gives(True, fits, Line(WORK), (0, -1, 0, -1, 0, -1, -1, -1, -1, -1, -1))
        self.same(sum(greedy(WORK)[1]), 11)

    def test_with_one_wait(self):
        work = stretched(WORK, (1, 0, 0, 0, 0, 0))
        self.gives(None, clash, Line(work), tuple((3 * at, 0) for at in range(60)))
        self.gives(True, fits, Line(work), (0, -1, -1))
        self.gives(False, fits, Line(WORK), (0, -1, -1))

    def test_starts_at_three_and_four_do_not_clash(self):
        ticks = (0, 3, 7, 10, 14, 17, 21)
        self.gives(None, clash, Line(WORK), tuple((tick, 0) for tick in ticks))
        self.gives(True, fits, Line(WORK), (0, -1, -1, 0, -1, -1, -1))
        self.gives(True, shows_best, Line(WORK), (1,), ((0, -1, -1, 0, -1, -1, -1), prices(Line(WORK), (1,))))

    def test_what_tells_returns_bools(self):
        for told in (is_work(WORK), is_work(None), is_work(()), is_work((-1,)), is_plan(Line(WORK), ()),
                     is_plan(Line(WORK), None), is_plan(Line(WORK), ((0, 0),)), Line(WORK) == Line(WORK),
                     fits(Line(WORK), (0,)), fits(Line(WORK), (-1,)), shows_best(Line((0,)), (1,), ((0,), (0,))),
                     shows_best(Line((0,)), (1,), ((-1,), (0,))), shows_best(Line((0,)), (1,), None),
                     is_greedy_best(WORK), is_greedy_best((0,)), shows_stretch(WORK, 3, (1, 0, 0, 0, 0, 0)),
                     shows_stretch(WORK, 3, (0,) * 6), shows_stretch(WORK, 3, ()), is_under(TWO, ((0, 1), (0, 1))),
                     is_under(TWO, ((5, 1), (0, 1))), shows_rates(TWO, rates(TWO)), shows_rates(TWO, ()),
                     shows_rates(TWO, None), is_full(TWO, (-1,)), is_full(Line((0,)), (0,)), 0 in Feeder(TWO),
                     Feeder(TWO) == Feeder(TWO), Feeder(TWO) == TWO):
            self.assertIs(type(told), bool)

    def test_returned_values_may_be_passed_back(self):
        line = Line(WORK, (0,))
        self.gives(True, is_work, line[0])
        self.gives(True, is_work, (-line)[0])
        self.gives(3, most_visits, (-line).works[0])
        self.gives(False, is_work, line.works)
        self.gives(False, is_work, line(0, 0) + (60,))
        self.gives(False, is_plan, line, clash(line, ((0, 0), (1, 0))))

    def test_returned_plans_and_laps_may_be_passed_back(self):
        line = Line((0, 1, 1), (1, -1, 0))
        for plan in (early(line, (0, 1, 0)), soonest(line, (0, 1, 0)), soonest_of(line, (2, 1))):
            self.gives(True, is_plan, line, plan)
            self.gives(None, clash, line, plan)
            for tick in range(12):
                self.assertIn(state_at(line, plan, tick), states(line))
        most, lap = best(line, (1, 1))
        self.gives(True, fits, line, lap)
        self.gives(most, mean, line, lap, (1, 1))
        self.gives(True, shows_best, line, (1, 1), (lap, prices(line, (1, 1))))
        self.gives(False, shows_best, line, (1, 1), (most, lap))
        for state in states(line):
            self.assertIn(after(line, state, choices(line, state)[-1]), states(line))

    def test_what_is_returned_for_one_work_may_be_passed_back(self):
        distance = trade(WORK)[0][0]
        self.gives(True, is_work, stretched(WORK, stretch(WORK, distance)))
        self.gives(True, shows_stretch, WORK, distance, stretch(WORK, distance))
        self.assertIn(distance, constants(stretched(WORK, stretch(WORK, distance))))
        self.gives(False, shows_stretch, WORK, distance, trade(WORK))
        self.gives(False, shows_stretch, WORK, distance, greedy(WORK))
        self.gives(True, is_under, Line(WORK, (0,)) - 0 + Line((1,)), (bounds((0,))[1], (0, 1)))
        self.gives(False, shows_stretch, WORK, distance, bounds(WORK))

    def test_what_is_returned_for_a_line_may_be_passed_back(self):
        for rate, lap in rates(TWO):
            self.gives(True, fits, TWO, lap)
            self.gives(True, is_under, TWO, rate)
        _, lap = in_turn(TWO, (0, 1, 1))
        self.gives(True, fits, TWO, lap)
        self.gives(True, is_under, TWO, (mean(TWO, lap, (1, 0)), mean(TWO, lap, (0, 1))))
        self.gives(True, shows_rates, TWO, rates(TWO))
        self.gives(False, shows_rates, TWO, in_turn(TWO, (0, 1, 1)))
        self.gives(False, shows_rates, TWO, rates(TWO) + rates(TWO))

    def test_wrong_amounts_of_arguments(self):
        for module, functions in FUNCTIONS.items():
            for name, arguments in functions.items():
                function = getattr(importlib.import_module(module), name)
                self.assertRaises(TypeError, function)
                self.assertRaises(TypeError, function, *arguments, None)
                self.assertRaises(TypeError, function, **dict.fromkeys([*arguments, "more"]))

    def test_where_nothing_is_right_the_first_exception_is_raised(self):
        for module, functions in FUNCTIONS.items():
            for name, arguments in functions.items():
                function = getattr(importlib.import_module(module), name)
                if name != "is_work":
                    with self.assertRaises(GapError) as caught:
                        function(*[None] * len(arguments))
                    self.assertEqual(type(caught.exception).__name__, FIRST.get(name, "NoLine"))

    def test_the_readme_session(self):
        text = (ROOT / "README.md").read_text(encoding="utf-8")
        self.assertIn(">>> ", text)
        test = doctest.DocTestParser().get_doctest(text, {}, "README.md", "README.md", 0)
        runner = doctest.DocTestRunner(verbose=False)
        runner.run(test)
        self.assertGreater(runner.tries, 0)
        self.assertEqual(runner.failures, 0)


if __name__ == "__main__":
    unittest.main()
