"""Feeders: lines that run, tick by tick, with stations that are shut for a while.

All that the document lists for a class stands in its body, also where it does what it does in the class above.
"""

from startgaps.errors import Clash, NoPace, TooSoon
from startgaps.integers import is_between
from startgaps.runs import Run
from startgaps.visits import all_visits, first_taken, taken_places

MOST_PACE = 50


class Feeder(Run):
    """A line that runs, from tick 0 on."""

    def __init__(self, line):
        Run.__init__(self, line)

    @property
    def line(self):
        """The line that runs."""
        return self._line

    @property
    def now(self):
        """The tick that it is."""
        return self._now

    @property
    def plan(self):
        """All starts, as pairs (tick, kind)."""
        return self._plan

    @property
    def clashes(self):
        """All clashes: (tick, station, first piece, second piece), with -1 for the second one at a shut station."""
        return self._all_clashes()

    @property
    def changes(self):
        """How many changes can be taken back."""
        return len(self._past)

    def start(self, kind):
        """Start a piece now, and return its number; then it is one tick later."""
        return self._start(kind)

    def wait(self, ticks):
        """Let 1 to 100 ticks pass."""
        self._wait(ticks)

    def feed(self, kind):
        """Start a piece in the first tick, from now on, in which it clashes with none; return this tick."""
        return self._feed(kind)

    def run(self, lap):
        """Go once through a lap, and return the tuple of the numbers of its pieces."""
        return self._run(lap)

    def shut(self, station, ticks):
        """Shut a station for 1 to 100 ticks, from now on."""
        self._shut(station, ticks)

    def undo(self):
        """Take back the last start, wait, feed, run or shutting."""
        self._undo()

    def trial(self, task):
        """Return what a task returns; what it raises is raised on, and the feeder is as it was."""
        return self._trial(task)

    def __call__(self, kind):
        """Return how many ticks from now a piece can be started without a clash, at least."""
        return self._ticks_until(kind)

    def __getitem__(self, station):
        """Return the pieces that are at a station now."""
        return self._pieces_at(station)

    def __iter__(self):
        raise TypeError("a feeder is not walked over: ask it for its stations")

    def __len__(self):
        return len(self._under_way())

    def __contains__(self, thing):
        return self._is_taken(thing)

    def __eq__(self, other):
        return isinstance(other, Feeder) and self._told() == other._told()

    def __repr__(self):
        return str(self._shown())


class Careful(Feeder):
    """A feeder that refuses a start or shutting by which a piece clashes."""

    def __init__(self, line):
        Feeder.__init__(self, line)

    @property
    def line(self):
        return self._line

    @property
    def now(self):
        return self._now

    @property
    def plan(self):
        return self._plan

    @property
    def clashes(self):
        return self._all_clashes()

    @property
    def changes(self):
        return len(self._past)

    def start(self, kind):
        return self._start(kind)

    def wait(self, ticks):
        self._wait(ticks)

    def feed(self, kind):
        return self._feed(kind)

    def run(self, lap):
        return self._run(lap)

    def shut(self, station, ticks):
        self._shut(station, ticks)

    def undo(self):
        self._undo()

    def trial(self, task):
        return self._trial(task)

    def __call__(self, kind):
        return self._ticks_until(kind)

    def __getitem__(self, station):
        return self._pieces_at(station)

    def __len__(self):
        return len(self._under_way())

    def __contains__(self, thing):
        return self._is_taken(thing)

    def __eq__(self, other):
        return isinstance(other, Feeder) and self._told() == other._told()

    def __repr__(self):
        return str(self._shown())

    def _require_start(self, plan, tick, kind):
        # Where a start must also keep a pace, this comes first.
        super()._require_start(plan, tick, kind)
        works = self._line.works
        place = first_taken(works[kind], tick, taken_places(works, plan, self._shuttings))
        if place is not None:
            raise Clash(place[0], place[1])

    def _require_shutting(self, station, ticks):
        visits = all_visits(self._line.works, self._plan)
        there = [tick for tick, other, _ in visits if other == station and self._now <= tick < self._now + ticks]
        if there:
            raise Clash(there[0], station)


class Paced(Feeder):
    """A feeder that refuses a start less than a pace behind the one before."""

    def __init__(self, line, pace):
        Feeder.__init__(self, line)
        if not is_between(pace, 1, MOST_PACE):
            raise NoPace("an integer from 1 to 50 is needed")
        self._pace = pace

    @property
    def pace(self):
        """How many ticks a start is behind the one before, at least."""
        return self._pace

    @property
    def line(self):
        return self._line

    @property
    def now(self):
        return self._now

    @property
    def plan(self):
        return self._plan

    @property
    def clashes(self):
        return self._all_clashes()

    @property
    def changes(self):
        return len(self._past)

    def start(self, kind):
        return self._start(kind)

    def wait(self, ticks):
        self._wait(ticks)

    def feed(self, kind):
        return self._feed(kind)

    def run(self, lap):
        return self._run(lap)

    def shut(self, station, ticks):
        self._shut(station, ticks)

    def undo(self):
        self._undo()

    def trial(self, task):
        return self._trial(task)

    def __call__(self, kind):
        return self._ticks_until(kind)

    def __getitem__(self, station):
        return self._pieces_at(station)

    def __len__(self):
        return len(self._under_way())

    def __contains__(self, thing):
        return self._is_taken(thing)

    def __eq__(self, other):
        return isinstance(other, Feeder) and self._told() == other._told()

    def __repr__(self):
        return str(self._shown())

    def _require_start(self, plan, tick, kind):
        missing = self._missing(plan, tick)
        if missing > 0:
            raise TooSoon(missing)

    def _missing(self, plan, tick):
        if not plan:
            return 0
        last, _ = plan[-1]
        return max(0, last + self._pace - tick)

    def _told(self):
        told = super()._told()
        return (*told, self._pace)


class CarefulPaced(Careful, Paced):
    """A feeder that refuses what either refuses; for each start, what is too soon comes first."""

    def __init__(self, line, pace):
        Paced.__init__(self, line, pace)

    @property
    def pace(self):
        return self._pace

    @property
    def line(self):
        return self._line

    @property
    def now(self):
        return self._now

    @property
    def plan(self):
        return self._plan

    @property
    def clashes(self):
        return self._all_clashes()

    @property
    def changes(self):
        return len(self._past)

    def start(self, kind):
        return self._start(kind)

    def wait(self, ticks):
        self._wait(ticks)

    def feed(self, kind):
        return self._feed(kind)

    def run(self, lap):
        return self._run(lap)

    def shut(self, station, ticks):
        self._shut(station, ticks)

    def undo(self):
        self._undo()

    def trial(self, task):
        return self._trial(task)

    def __call__(self, kind):
        return self._ticks_until(kind)

    def __getitem__(self, station):
        return self._pieces_at(station)

    def __len__(self):
        return len(self._under_way())

    def __contains__(self, thing):
        return self._is_taken(thing)

    def __eq__(self, other):
        return isinstance(other, Feeder) and self._told() == other._told()

    def __repr__(self):
        return str(self._shown())
