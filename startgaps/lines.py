"""Lines: one to three works that go through the same stations."""

from startgaps.errors import NoKind, NoLine, NoWork, OnlyOne, TooMany
from startgaps.integers import is_between
from startgaps.works import bars, is_work

MOST_WORKS = 3


def is_kind(line, thing):
    """Tell whether any value is the number of a work of a line."""
    return is_between(thing, 0, len(line) - 1)


def require_kind(line, thing):
    """Raise NoKind for any value that is no kind of a line."""
    if not is_kind(line, thing):
        raise NoKind("the number of a work of the line is needed")


def _bars_of_all(works):
    return tuple([tuple([bars(one, other) for other in works]) for one in works])


class Line:
    """One to three works, numbered from 0; a line does not change."""

    def __init__(self, *works):
        if not works or not all([is_work(work) for work in works]):
            raise NoWork("a line is made of works, at least one")
        if len(works) > MOST_WORKS:
            raise TooMany(len(works), MOST_WORKS)
        self._works = works
        self._bars = _bars_of_all(works)
        self._reach = max([bar for row in self._bars for pair in row for bar in pair], default=0)

    @property
    def works(self):
        """The works, in the order of their numbers."""
        return self._works

    @property
    def reach(self):
        """The greatest of all bars of any two of the works, 0 if there are none."""
        return self._reach

    def __len__(self):
        return len(self._works)

    def __getitem__(self, at):
        require_kind(self, at)
        return self._works[at]

    def __iter__(self):
        raise TypeError("a line is not walked over: take its works")

    def __call__(self, one, other):
        """Return the bars of two kinds."""
        require_kind(self, one)
        require_kind(self, other)
        return self._bars[one][other]

    def __add__(self, other):
        if not isinstance(other, Line):
            raise NoLine("only a line can be added to a line")
        works = self._works + other._works
        return Line(*works)

    def __radd__(self, other):
        # Python comes here only if what stands before the sign is no line.
        raise NoLine("a line can be added to a line only")

    def __sub__(self, other):
        require_kind(self, other)
        if len(self._works) == 1:
            raise OnlyOne("the only work of a line cannot be taken away")
        works = self._works[:other] + self._works[other + 1:]
        return Line(*works)

    def __neg__(self):
        works = [work[::-1] for work in self._works]
        return Line(*works)

    def __eq__(self, other):
        return isinstance(other, Line) and self._works == other._works

    def __repr__(self):
        return f"Line({len(self._works)} works)"


def require_line(thing):
    """Raise NoLine for any value that is no Line."""
    if not isinstance(thing, Line):
        raise NoLine("a Line is needed")
