"""A feeder once more, as a table of who is at which station in which tick, made anew for each question."""

from startgaps.errors import Clash, NoKind, NoLap, NoStation, NothingDone, NoTicks, TooMany, TooSoon


class Table:

    def __init__(self, works, name="Feeder", pace=1, careful=False):
        self.works, self.name, self.pace, self.careful = works, name, pace, careful
        self.now, self.plan, self.closed, self.history = 0, [], set(), []

    def entries(self, plan):
        """Return a dict from (tick, station) to the pieces that are there."""
        found = {}
        for piece, (start, kind) in enumerate(plan):
            for passed, station in enumerate(self.works[kind]):
                if station != -1:
                    found.setdefault((start + passed, station), []).append(piece)
        return found

    def first_clash(self, plan, tick, kind):
        there = self.entries(plan)
        for passed, station in enumerate(self.works[kind]):
            if station != -1 and ((tick + passed, station) in there or (tick + passed, station) in self.closed):
                return tick + passed, station
        return None

    def check(self, good, error):
        if not good:
            raise error

    def check_kind(self, kind):
        self.check(type(kind) is int and 0 <= kind < len(self.works), NoKind())

    def check_start(self, plan, tick, kind):
        if plan and tick - plan[-1][0] < self.pace:
            raise TooSoon(self.pace - tick + plan[-1][0])
        clash = self.first_clash(plan, tick, kind)
        if self.careful and clash:
            raise Clash(*clash)

    def remember(self):
        self.history.append((self.now, list(self.plan), set(self.closed)))

    def start(self, kind):
        self.check_kind(kind)
        return self.run((kind,))[0]

    def wait(self, ticks):
        self.check(type(ticks) is int and 1 <= ticks <= 100, NoTicks())
        self.remember()
        self.now += ticks

    def feed(self, kind):
        self.check_kind(kind)
        self.check(len(self.plan) < 60, TooMany(len(self.plan) + 1, 60))
        tick = self.now + self.soonest(kind)
        self.remember()
        self.plan.append((tick, kind))
        self.now = tick + 1
        return tick

    def run(self, lap):
        kinds = range(-1, len(self.works))
        self.check(type(lap) is tuple and lap and all(type(item) is int and item in kinds for item in lap), NoLap())
        plan = list(self.plan)
        starts = [(self.now + at, kind) for at, kind in enumerate(lap) if kind != -1]
        self.check(len(plan + starts) <= 60, TooMany(len(plan + starts), 60))
        for tick, kind in starts:
            self.check_start(plan, tick, kind)
            plan.append((tick, kind))
        self.remember()
        numbers = tuple(range(len(self.plan), len(plan)))
        self.plan, self.now = plan, self.now + len(lap)
        return numbers

    def shut(self, station, ticks):
        self.check(type(station) is int and 0 <= station <= 9, NoStation())
        self.check(type(ticks) is int and 1 <= ticks <= 100, NoTicks())
        closed = {(tick, station) for tick in range(self.now, self.now + ticks)}
        hit = sorted(closed & set(self.entries(self.plan)))
        if self.careful and hit:
            raise Clash(*hit[0])
        self.remember()
        self.closed |= closed

    def undo(self):
        self.check(self.history, NothingDone())
        self.now, self.plan, self.closed = self.history.pop()

    def soonest(self, kind):
        self.check_kind(kind)
        ticks = 0
        while True:
            tick = self.now + ticks
            if not (self.plan and tick - self.plan[-1][0] < self.pace) and not self.first_clash(self.plan, tick, kind):
                return ticks
            ticks += 1

    def at(self, station):
        self.check(type(station) is int and 0 <= station <= 9, NoStation())
        return tuple(self.entries(self.plan).get((self.now, station), []))

    def clashes(self):
        found = []
        for (tick, station), pieces in self.entries(self.plan).items():
            found += [(tick, station, one, other) for one in pieces for other in pieces if one < other]
            if (tick, station) in self.closed:
                found += [(tick, station, piece, -1) for piece in pieces]
        return tuple(sorted(found))

    def seen(self):
        """Return all that a feeder tells of itself."""
        under_way = [1 for start, kind in self.plan if start + len(self.works[kind]) - 1 >= self.now]
        return (self.now, tuple(self.plan), self.clashes(), len(self.history), tuple(map(self.soonest, range(len(self.works)))),
                tuple(map(self.at, range(10))), len(under_way), tuple(station for station in range(10) if self.at(station)),
                f"{self.name}(tick {self.now}, {len(self.plan)} pieces)")


def seen(feeder):
    """Return the same of a feeder of the program."""
    return (feeder.now, feeder.plan, feeder.clashes, feeder.changes,
            tuple(feeder(kind) for kind in range(len(feeder.line.works))), tuple(feeder[station] for station in range(10)),
            len(feeder), tuple(station for station in range(10) if station in feeder), repr(feeder))
