"""What all feeders share: what was started and shut, how it goes on, and how it is taken back."""

from startgaps.errors import NoStation, NothingDone, NoTicks, TooMany
from startgaps.integers import is_between
from startgaps.laps import require_lap
from startgaps.lines import require_kind, require_line
from startgaps.plans import MOST_STARTS
from startgaps.states import NOTHING
from startgaps.visits import all_clashes, first_taken, pieces_at, shut_places, taken_places, under_way
from startgaps.works import STATIONS

MOST_TICKS = 100


def _is_station(thing):
    return is_between(thing, 0, STATIONS - 1)


def _require_station(thing):
    if not _is_station(thing):
        raise NoStation("an integer from 0 to 9 is needed")


def _require_ticks(thing):
    if not is_between(thing, 1, MOST_TICKS):
        raise NoTicks("an integer from 1 to 100 is needed")


def _require_room(pieces):
    if pieces > MOST_STARTS:
        raise TooMany(pieces, MOST_STARTS)


class Run:
    """A line that runs, from tick 0 on.

    The classes of feeders differ by their rules: what a start and a shutting need, how many ticks are missing until
    the next start, and what makes feeders equal.
    """

    def __init__(self, line):
        require_line(line)
        self._line = line
        self._now = 0
        self._plan = ()
        # Each shutting is a triple (station, first tick, first tick behind it).
        self._shuttings = ()
        # Starts and shuttings are only added: the tick and their numbers before each change tell what it did.
        self._past = ()

    def _require_start(self, plan, tick, kind):
        """Raise what refuses a start behind those of a plan; without a rule none is refused."""

    def _require_shutting(self, station, ticks):
        """Raise what refuses a shutting from now on; without a rule none is refused."""

    def _missing(self, plan, tick):
        """Return how many ticks must pass before a start behind those of a plan; without a rule none."""
        return 0

    def _told(self):
        """Return all by which feeders are equal."""
        return self.__class__.__name__, self._line, self._now, self._plan, shut_places(self._shuttings)

    def _shown(self):
        name = self.__class__.__name__
        return f"{name}(tick {self._now}, {len(self._plan)} pieces)"

    def _start(self, kind):
        require_kind(self._line, kind)
        numbers = self._go_through((kind,))
        return numbers[0]

    def _wait(self, ticks):
        _require_ticks(ticks)
        self._change(self._now + ticks, self._plan, self._shuttings)

    def _feed(self, kind):
        require_kind(self._line, kind)
        _require_room(len(self._plan) + 1)
        tick = self._now + self._ticks_until(kind)
        self._change(tick + 1, self._plan + ((tick, kind),), self._shuttings)
        return tick

    def _run(self, lap):
        require_lap(self._line, lap)
        return self._go_through(lap)

    def _shut(self, station, ticks):
        _require_station(station)
        _require_ticks(ticks)
        self._require_shutting(station, ticks)
        self._change(self._now, self._plan, self._shuttings + ((station, self._now, self._now + ticks),))

    def _undo(self):
        if not self._past:
            raise NothingDone("nothing is left that could be taken back")
        now, starts, shuttings = self._past[-1]
        self._now, self._plan, self._shuttings = now, self._plan[:starts], self._shuttings[:shuttings]
        self._past = self._past[:-1]

    def _trial(self, task):
        now, plan, shuttings, past = self._now, self._plan, self._shuttings, self._past
        ended = None
        try:
            told = task(self)
            ended = True
        finally:
            if ended is None:
                self._now, self._plan, self._shuttings, self._past = now, plan, shuttings, past
        return told

    def _ticks_until(self, kind):
        """Return how many ticks from now a piece can be started without a clash, at least."""
        require_kind(self._line, kind)
        works = self._line.works
        taken = taken_places(works, self._plan, self._shuttings)
        ticks = self._missing(self._plan, self._now)
        while first_taken(works[kind], self._now + ticks, taken) is not None:
            ticks += 1
        return ticks

    def _all_clashes(self):
        return all_clashes(self._line.works, self._plan, self._shuttings)

    def _pieces_at(self, station):
        _require_station(station)
        return pieces_at(self._line.works, self._plan, self._now, station)

    def _is_taken(self, thing):
        return _is_station(thing) and len(self._pieces_at(thing)) > 0

    def _under_way(self):
        return under_way(self._line.works, self._plan, self._now)

    def _go_through(self, lap):
        """Make the choices of a lap, from now on, if no start is refused; return the numbers of the pieces."""
        starts = [(self._now + passed, kind) for passed, kind in enumerate(lap) if kind != NOTHING]
        _require_room(len(self._plan) + len(starts))
        plan = self._plan
        for tick, kind in starts:
            self._require_start(plan, tick, kind)
            plan = plan + ((tick, kind),)
        numbers = tuple(range(len(self._plan), len(plan)))
        self._change(self._now + len(lap), plan, self._shuttings)
        return numbers

    def _change(self, now, plan, shuttings):
        before = (self._now, len(self._plan), len(self._shuttings))
        self._past = self._past + (before,)
        self._now, self._plan, self._shuttings = now, plan, shuttings
