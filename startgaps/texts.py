"""Works, laps, lines and plans as texts."""

from startgaps.errors import NoText
from startgaps.laps import is_lap, require_lap
from startgaps.lines import MOST_WORKS, Line, require_line
from startgaps.plans import is_plan, require_plan
from startgaps.works import NOWHERE, is_work, require_work

NONE = "none"
DIGITS = "0123456789"


def work_text(work):
    """Return the text of a work."""
    require_work(work)
    return _items_text(work)


def lap_text(line, lap):
    """Return the text of a lap of a line."""
    require_lap(line, lap)
    return _items_text(lap)


def line_text(line):
    """Return the text of a line, with a text line for each work."""
    require_line(line)
    return "".join([_items_text(work) + "\n" for work in line.works])


def plan_text(line, plan):
    """Return the text of a plan of a line."""
    require_plan(line, plan)
    return " ".join([f"{tick}:{kind}" for tick, kind in plan]) if plan else NONE


def read_work(text):
    """Return the work that has this text."""
    _require_text(text)
    return _read_work(text)


def read_lap(text):
    """Return the lap that has this text, with kinds from 0 to 2."""
    _require_text(text)
    lap = _read_items(text)
    if not is_lap(_greatest_line(), lap):
        raise NoText("the text of a lap is needed")
    return lap


def read_line(text):
    """Return the Line that has this text."""
    _require_text(text)
    rows = text.split("\n")
    # What stands behind the last line feed is empty, since each work is ended by one.
    if not 1 < len(rows) <= MOST_WORKS + 1 or rows[-1] != "":
        raise NoText("a text line for each of one to three works is needed")
    works = [_read_work(row) for row in rows[:-1]]
    return Line(*works)


def read_plan(text):
    """Return the plan that has this text, with kinds from 0 to 2."""
    _require_text(text)
    plan = () if text == NONE else tuple([_read_start(part) for part in text.split(" ")])
    if not is_plan(_greatest_line(), plan):
        raise NoText("the text of a plan is needed")
    return plan


def _require_text(thing):
    if not isinstance(thing, str):
        raise NoText("a text is needed")


def _items_text(items):
    return " ".join(["-" if item == NOWHERE else str(item) for item in items])


def _greatest_line():
    """Return a line with as many works as can be; which kinds a lap or plan may have depends on nothing else."""
    works = ((0,),) * MOST_WORKS
    return Line(*works)


def _read_work(text):
    work = _read_items(text)
    if not is_work(work):
        raise NoText("the text of a work is needed")
    return work


def _read_items(text):
    """Return the items that are written in a text, with None for what is no item."""
    return tuple([NOWHERE if part == "-" else _read_number(part) for part in text.split(" ")])


def _read_start(text):
    """Return the pair (tick, kind) that is written in a text, with None for what is no number."""
    return tuple([_read_number(part) for part in text.split(":")])


def _read_number(text):
    """Return the number that is written so, None if there is none."""
    if text == "" or not all([sign in DIGITS for sign in text]):
        return None
    if text[0] == "0" and text != "0":
        return None
    return int(text)
