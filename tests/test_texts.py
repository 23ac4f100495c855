"""Point [120]: works, laps, lines and plans as texts."""

import itertools
import random
import unittest

from startgaps.errors import NoLap, NoLine, NoPlan, NoText, NoWork
from startgaps.feeders import Feeder
from startgaps.lines import Line
from startgaps.texts import (
    lap_text, line_text, plan_text, read_lap, read_line, read_plan, read_work, work_text,
)
from tests.samples import (
    FAR_THREE, HUGE, LONGEST, WORK, Case, nested, not_integers, not_lines, not_works, random_works, small_works,
)
from tests.test_laps import not_laps
from tests.test_plans import not_plans

ONE = Line(WORK)
TWO = Line((0, 0), (1, -1, 1))
FREE = Line((0,), (1,), (2,))
READERS = (read_work, read_lap, read_line, read_plan)
SIGNS = "01239- :\nn+_."
FULL_PLAN = tuple((tick, tick % 3) for tick in range(60))


def not_texts():
    """Return values that are no texts, of every kind."""
    return [thing for thing in not_integers() if not isinstance(thing, str)] + [
        0, 1, -1, b"0", b"0 1\n", ["0"], ("0",), ("0", "1"), {"0": "0"}, ["0", "1"], [["0"]], WORK, ONE, nested(20),
        ((0, 0),), ("0:0",), ["none"], (None,), Feeder(ONE),
    ]


def spoiled(text):
    """Return texts that differ from a text in a sign that is put in, left out or changed."""
    found = set()
    for at in range(len(text) + 1):
        for sign in SIGNS:
            found |= {text[:at] + sign + text[at:], text[:at] + sign + text[at + 1:]}
        found.add(text[:at] + text[at + 1:])
    return sorted(found - {text})


class Texts(Case):

    def reads_only(self, reader, known, texts):
        """Expect that a reader returns what is known for a text, and refuses all others."""
        for text in texts:
            if text in known:
                self.gives(known[text], reader, text)
            else:
                self.refuses(NoText, reader, text)


class Works(Texts):

    def test_of_the_document(self):
        self.gives("0 0 - - - - 0", work_text, WORK)
        self.gives(WORK, read_work, "0 0 - - - - 0")

    def test_one_item(self):
        for station in range(10):
            self.gives(str(station), work_text, (station,))
            self.gives((station,), read_work, str(station))

    def test_longest(self):
        self.gives("3" + " -" * 58 + " 9", work_text, LONGEST)
        self.gives(LONGEST, read_work, "3" + " -" * 58 + " 9")
        self.gives((7,) * 60, read_work, "7 " * 59 + "7")
        self.refuses(NoText, read_work, "7 " * 60 + "7")
        self.refuses(NoText, read_work, "7 " * 999 + "7")

    def test_there_and_back(self):
        for work in random_works(1401, 200) + small_works(4, 3):
            self.gives(work, read_work, work_text(work))

    def test_all_short_texts(self):
        known = {" ".join(str(item) if item != -1 else "-" for item in work): work
                 for work in small_works(3, 10) if len(work) < 3 or max(work) < 4}
        texts = ["".join(signs) for many in range(6) for signs in itertools.product("013- \n", repeat=many)]
        self.reads_only(read_work, known, texts)
        self.assertGreater(len(set(texts) & set(known)), 30)

    def test_spoiled_texts(self):
        known = {work_text(work): work for work in small_works(3, 10)}
        for work in ((0, -1, 1), (9,), (1, 2)):
            self.reads_only(read_work, known, spoiled(work_text(work)))

    def test_no_texts_of_works(self):
        for text in ("", " ", "\n", "-", "- 0", "0 -", "0  0", " 0", "0 ", "0 0 ", "0\n", "\n0", "0\n0", "00", "01", "10",
                     "+0", "-0", "0 --", "0 -1 0", "0 - - 0 ", "0,0", "0-0", "0\t0", "0\r\n", "0 a", "a", "none", "0:0",
                     "0.0", "0_0", "1_0", "0 0\n0 0\n", "(0, 0)", "True", "None", "0 - \n0", "\u0660", "\u00b2", "0\u00a00"):
            self.refuses(NoText, read_work, text)

    def test_no_texts(self):
        for thing in not_texts():
            self.refuses(NoText, read_work, thing)

    def test_no_work(self):
        for thing in not_works():
            self.refuses(NoWork, work_text, thing)

    def test_named(self):
        self.gives("0 -", lap_text, line=ONE, lap=(0, -1))
        self.gives("0 1", work_text, work=(0, 1))
        self.gives((0, 1), read_work, text="0 1")
        self.refuses(NoText, read_work, text=None)


class Laps(Texts):

    def test_small(self):
        self.gives("- - - 0 - - 0", lap_text, ONE, (-1, -1, -1, 0, -1, -1, 0))
        self.gives((-1, -1, -1, 0, -1, -1, 0), read_lap, "- - - 0 - - 0")
        self.gives("2 - 1 0", lap_text, FREE, (2, -1, 1, 0))
        self.gives((2, -1, 1, 0), read_lap, "2 - 1 0")

    def test_one_item(self):
        for item, text in ((-1, "-"), (0, "0"), (1, "1"), (2, "2")):
            self.gives(text, lap_text, FREE, (item,))
            self.gives((item,), read_lap, text)

    def test_long(self):
        self.gives("0 - " * 499 + "0 -", lap_text, ONE, (0, -1) * 500)
        self.gives((0, -1) * 500, read_lap, "0 - " * 499 + "0 -")
        self.assertEqual(len(lap_text(ONE, (-1,) * 4000)), 7999)
        self.gives((-1,) * 4000, read_lap, lap_text(ONE, (-1,) * 4000))

    def test_a_lap_need_not_fit(self):
        self.gives("0 0", lap_text, ONE, (0, 0))

    def test_there_and_back(self):
        chance = random.Random(1402)
        for line in (ONE, TWO, FREE):
            for _ in range(80):
                lap = tuple(chance.randint(-1, len(line.works) - 1) for _ in range(chance.randint(1, 40)))
                self.gives(lap, read_lap, lap_text(line, lap))

    def test_all_short_texts(self):
        known = {" ".join(str(item) if item != -1 else "-" for item in lap): lap
                 for many in range(1, 4) for lap in itertools.product(range(-1, 3), repeat=many)}
        texts = ["".join(signs) for many in range(6) for signs in itertools.product("0123- \n", repeat=many)]
        self.reads_only(read_lap, known, texts)
        self.assertGreater(len(set(texts) & set(known)), 80)

    def test_spoiled_texts(self):
        known = {lap_text(FREE, lap): lap for many in range(1, 4) for lap in itertools.product(range(-1, 3), repeat=many)}
        for lap in ((0, -1, 2), (-1,), (1, 2)):
            self.reads_only(read_lap, known, spoiled(lap_text(FREE, lap)))

    def test_no_texts_of_laps(self):
        for text in ("", " ", "\n", "3", "9", "0 3", "-1", "- -1", "--", "0  0", " 0", "0 ", "0\n", "00", "01", "+1", "10",
                     "none", "0:0", "0,1", "0 1\n", "a", "\u0661"):
            self.refuses(NoText, read_lap, text)

    def test_no_texts(self):
        for thing in not_texts():
            self.refuses(NoText, read_lap, thing)

    def test_no_lap(self):
        for thing in not_laps():
            self.refuses(NoLap, lap_text, TWO, thing)
        self.refuses(NoLap, lap_text, ONE, (1,))

    def test_no_line(self):
        for thing in not_lines():
            self.refuses(NoLine, lap_text, thing, (0,))
            self.refuses(NoLine, lap_text, thing, None)

    def test_named(self):
        self.gives("0 -", lap_text, lap=(0, -1), line=ONE)
        self.gives((0, -1), read_lap, text="0 -")
        self.refuses(NoLap, lap_text, ONE, lap=[0])


class Lines(Texts):

    def test_small(self):
        self.gives("0 0 - - - - 0\n", line_text, ONE)
        self.gives(ONE, read_line, "0 0 - - - - 0\n")
        self.gives("0 0\n1 - 1\n", line_text, TWO)
        self.gives(TWO, read_line, "0 0\n1 - 1\n")
        self.gives("0\n1\n2\n", line_text, FREE)
        self.gives(FREE, read_line, "0\n1\n2\n")

    def test_works_of_one_item(self):
        self.gives("7\n", line_text, Line((7,)))
        self.gives(Line((7,)), read_line, "7\n")

    def test_longest(self):
        line = Line(LONGEST, (8,) * 60, LONGEST)
        self.gives(line, read_line, line_text(line))
        self.assertEqual(len(line_text(line)), 360)

    def test_there_and_back(self):
        for at in range(120):
            line = Line(*random_works(at, 1 + at % 3))
            self.gives(line, read_line, line_text(line))

    def test_all_short_texts(self):
        known = {"".join(work_text(work) + "\n" for work in some): Line(*some)
                 for many in range(1, 4) for some in itertools.product(small_works(3, 2), repeat=many)}
        texts = ["".join(signs) for many in range(7) for signs in itertools.product("01- \n", repeat=many)]
        self.reads_only(read_line, known, texts)
        self.assertGreater(len(set(texts) & set(known)), 30)

    def test_spoiled_texts(self):
        known = {}
        for first, second in itertools.product([(9,), (4, 5), *small_works(2, 10)], repeat=2):
            known[work_text(first) + "\n" + work_text(second) + "\n"] = Line(first, second)
            known[work_text(first) + "\n"] = Line(first)
        for text in ("9\n4 5\n", "0\n"):
            spoils = [spoil for spoil in spoiled(text) if spoil.count("\n") < 3 and spoil.count(" ") < 2]
            self.reads_only(read_line, known, spoils)

    def test_no_texts_of_lines(self):
        for text in ("", "\n", "\n\n", "0", "0\n1", "0\n\n", "\n0\n", "0\n\n1\n", "0\n1\n2\n3\n", "0\n" * 4, "0\n" * 60,
                     "0 \n", " 0\n", "0  0\n", "0\r\n", "0\n1\n2", "-\n", "0 -\n", "00\n", "0 0\n1 - 1\n ", "none\n", "none",
                     "0:0\n", "10\n", "0\n" * 3 + "\n", "a\n", " \n", "0\n \n"):
            self.refuses(NoText, read_line, text)

    def test_no_texts(self):
        for thing in not_texts():
            self.refuses(NoText, read_line, thing)

    def test_no_line(self):
        for thing in not_lines():
            self.refuses(NoLine, line_text, thing)

    def test_named(self):
        self.gives("0\n", line_text, line=Line((0,)))
        self.gives(Line((0,)), read_line, text="0\n")


class Plans(Texts):

    def test_of_the_document(self):
        self.gives("0:0 2:1", plan_text, TWO, ((0, 0), (2, 1)))
        self.gives(((0, 0), (2, 1)), read_plan, "0:0 2:1")

    def test_without_starts(self):
        for line in (ONE, TWO, FREE):
            self.gives("none", plan_text, line, ())
        self.gives((), read_plan, "none")

    def test_one_start(self):
        self.gives("0:0", plan_text, ONE, ((0, 0),))
        self.gives(((0, 0),), read_plan, "0:0")
        self.gives("10:2", plan_text, FREE, ((10, 2),))
        self.gives(((10, 2),), read_plan, "10:2")

    def test_great_ticks(self):
        for tick in (9, 10, 99, 100, 10 ** 12, HUGE, 10 ** 40):
            self.gives(f"{tick}:1", plan_text, TWO, ((tick, 1),))
            self.gives(((tick, 1),), read_plan, f"{tick}:1")

    def test_sixty_starts_and_one_more(self):
        text = " ".join(f"{tick}:{kind}" for tick, kind in FULL_PLAN)
        self.gives(text, plan_text, FREE, FULL_PLAN)
        self.gives(FULL_PLAN, read_plan, text)
        self.refuses(NoText, read_plan, text + " 60:0")
        self.refuses(NoPlan, plan_text, FREE, FULL_PLAN + ((60, 0),))

    def test_there_and_back(self):
        chance = random.Random(1403)
        for line in (ONE, TWO, FREE):
            for _ in range(80):
                ticks = sorted(chance.sample(range(chance.choice([60, 1000, HUGE])), chance.randint(0, 60)))
                plan = tuple((tick, chance.randrange(len(line.works))) for tick in ticks)
                self.gives(plan, read_plan, plan_text(line, plan))

    def test_all_short_texts(self):
        known = {f"{tick}:{kind}": ((tick, kind),) for tick in range(1000) for kind in range(3)}
        texts = ["".join(signs) for many in range(6) for signs in itertools.product("013: \n", repeat=many)]
        self.reads_only(read_plan, known, texts)
        self.assertGreater(len(set(texts) & set(known)), 40)

    def test_ticks_ascend(self):
        for text in ("1:0 0:0", "0:0 0:0", "0:0 0:1", "2:1 2:0", "5:0 6:0 6:0", "5:0 6:0 4:0"):
            self.refuses(NoText, read_plan, text)

    def test_spoiled_texts(self):
        ticks = [*range(10), *range(10, 100)]
        known = {"none": ()}
        for one, other in itertools.combinations(ticks, 2):
            for first, second in itertools.product(range(3), repeat=2):
                known[f"{one}:{first} {other}:{second}"] = ((one, first), (other, second))
        for tick, kind in itertools.product(range(1000), range(3)):
            known[f"{tick}:{kind}"] = ((tick, kind),)
        for text in ("none", "0:0 2:1", "7:2"):
            self.reads_only(read_plan, known, spoiled(text))

    def test_no_texts_of_plans(self):
        for text in ("", " ", "\n", "0", "0:", ":0", ":", "0:0:0", "0:3", "0:-", "0:-1", "-1:0", "-:0", "+1:0", "1:+0", "00:0",
                     "0:00", "01:0", "1:01", "0 :0", "0: 0", "0:0 ", " 0:0", "0:0  1:0", "0:0\n", "0:0\n1:0", "0:0,1:0",
                     "None", "NONE", "none ", " none", "none none", "none 0:0", "0:0 none", "non", "nonee", "none\n", "0:10",
                     "1_0:0", "1.0:0", "\u0661:0", "0:\u00b2", "0:0 :", "0 0", "- 0", "()"):
            self.refuses(NoText, read_plan, text)

    def test_no_texts(self):
        for thing in not_texts():
            self.refuses(NoText, read_plan, thing)

    def test_no_plan(self):
        for thing in not_plans():
            self.refuses(NoPlan, plan_text, TWO, thing)
        self.refuses(NoPlan, plan_text, ONE, ((0, 1),))

    def test_no_line(self):
        for thing in not_lines():
            self.refuses(NoLine, plan_text, thing, ())
            self.refuses(NoLine, plan_text, thing, None)

    def test_named(self):
        self.gives("0:0", plan_text, line=ONE, plan=((0, 0),))
        self.gives(((0, 0),), read_plan, text="0:0")
        self.refuses(NoPlan, plan_text, plan=[], line=ONE)


class AllReaders(Texts):

    def test_each_takes_its_own_texts_only(self):
        texts = {read_work: "0 3", read_lap: "- 2", read_line: "0\n", read_plan: "0:0"}
        for reader in READERS:
            for other, text in texts.items():
                if reader is other:
                    reader(text)
                else:
                    self.refuses(NoText, reader, text)

    def test_a_text_of_both_a_work_and_a_lap(self):
        self.gives((0, -1, 2), read_work, "0 - 2")
        self.gives((0, -1, 2), read_lap, "0 - 2")

    def test_the_longest_texts(self):
        for text in ("0" * 2000, " " * 2000, "\n" * 2000, "-" * 2000, "0 " * 1000, "0:0 " * 500, "none" * 500, ":" * 2000,
                     "~" * 2000, "0\n" * 1000, "x " * 1000):
            for reader in READERS:
                self.refuses(NoText, reader, text)
        self.gives((int("1" * 1998), 0), lambda: read_plan("1" * 1998 + ":0")[0])

    def test_what_is_read_is_written_so(self):
        for line in (ONE, TWO, FREE, FAR_THREE):
            self.same(line_text(read_line(line_text(line))), line_text(line))


if __name__ == "__main__":
    unittest.main()
