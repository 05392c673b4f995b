import copy
import unittest

from neverbare.bars import bar_holds, check_bars, read_bar
from neverbare.errors import BadBar
from neverbare.places import showings_at
from tests.helping import (
    BAD_AXES, BAD_BANDS, BAD_KINDS, BAD_REGIONS, BAD_WINDOWS, EXAMPLE, ODD_THINGS, SIX, Draws, all_tuples, cells_about,
    drawn_case, drawn_jobs, drawn_region, drawn_slips, leaves_alone, on_no_line, place_in, plain_kind, plain_showing,
    raises, whole_showing, whole_slips,
)
from tests.test_widest import plain_widest

WIDE = ("widest", 0, (0, 7), (0, 1), "mixed", 3)
GOOD = (WIDE, ("shows", (2, 0), (0, 1)), ("unseen", 0, (4, 0)), ("seen", 1, (6, 0)), ("never mixed", ((1, 0), (2, 0))))


def as_lists(thing):
    return [as_lists(part) for part in thing] if isinstance(thing, tuple) else thing


def no_bars():
    """Things that are no bars of the example job."""
    found = [(), (WIDE,), ("Widest", *WIDE[1:]), WIDE[:5], (*WIDE, 0), "widest", "seen", ("never bare", ()),
             ("together", (0,)), ("ink", 0, (4, 0)), ("never mixed", 0, (4, 0)), (["seen"], 0, (4, 0)),
             ({}, 0, (4, 0)), (0, 0, (4, 0)), *ODD_THINGS]
    for at, wrong in ((1, BAD_AXES), (2, BAD_WINDOWS), (3, BAD_BANDS), (4, BAD_KINDS)):
        found.extend((*WIDE[:at], thing, *WIDE[at + 1:]) for thing, _ in wrong)
    found.extend((*WIDE[:5], most) for most in (-1, (0, 1), (1, 1), *ODD_THINGS))
    found.extend([("shows", (2, 0)), ("shows", (2, 0), (), ())])
    found.extend(("shows", cell, ()) for cell in ((21, 0), (0, -21), (0,), (0, 0, 0), (True, 0), *ODD_THINGS))
    found.extend(("shows", (2, 0), showing)
                 for showing in ((1, 0), (0, 0), (2,), (-1,), (True,), (0, True), (0.0,), {0: 1}, *ODD_THINGS))
    for word in ("seen", "unseen"):
        found.extend([(word, 0), (word, 0, (4, 0), 0)])
        found.extend((word, plate, (4, 0)) for plate in (2, -1, (0,), *ODD_THINGS))
        found.extend((word, 0, cell) for cell in ((7, 0), (0, 1), (-1, 0), (0,), (0, False), *ODD_THINGS))
    found.extend([("never mixed",), ("never mixed", (), ())])
    found.extend(("never mixed", region) for region, _ in BAD_REGIONS)
    return found


def plain_bar(job, bar):
    """Whether a bar holds, by all whole slips."""
    if bar[0] == "widest":
        return plain_widest(job, *bar[1:5]) <= bar[5]
    if bar[0] == "shows":
        return any(whole_showing(job, slips, bar[1]) == bar[2] for slips in whole_slips(job))
    if bar[0] == "never mixed":
        return not any(len(whole_showing(job, slips, cell)) > 1 for slips in whole_slips(job) for cell in bar[1])
    plate, (x, y) = bar[1:]
    seen = (x, y) in job.plates[plate].cells and any(
        plate in whole_showing(job, slips, (x + slips[plate][0][0], y + slips[plate][1][0]))
        for slips in whole_slips(job))
    return seen == (bar[0] == "seen")


def drawn_bar(draws, job):
    word = draws.one_of(("widest", "shows", "unseen", "seen", "never mixed"))
    if word == "widest":
        return (word, *drawn_case(draws, job), draws.below(4))
    if word == "shows":
        cell = draws.one_of(cells_about(job))
        several = [(), tuple(range(len(job))), (len(job) - 1,), *[row[0] for row in showings_at(job, cell)]]
        return word, cell, draws.one_of(several)
    if word == "never mixed":
        return word, tuple(sorted(set(drawn_region(draws, job, 3))))
    plate = draws.below(len(job))
    return word, plate, draws.one_of([*job.field, *job.plates[plate].cells])


class TestReadBar(unittest.TestCase):
    def test_good_bars(self):
        for bar in GOOD:
            self.assertEqual(read_bar(EXAMPLE, bar), bar)
            found = leaves_alone(self, read_bar, EXAMPLE, as_lists(bar))
            self.assertEqual(found, bar)
            all_tuples(self, found)
        for bar in (("widest", 1, (-20, 20), (-20, -19), "bare", 10 ** 50), ("shows", (-20, 20), ()),
                    ("shows", (0, 0), (1,)), ("never mixed", ()), ("seen", 0, (0, 0)), ("unseen", 1, (6, 0))):
            self.assertEqual(read_bar(EXAMPLE, bar), bar)
        self.assertEqual(read_bar(EXAMPLE, ["widest", 0, [0, 7], (0, 1), ["alone", 1], 0]),
                         ("widest", 0, (0, 7), (0, 1), ("alone", 1), 0))

    def test_a_region_is_read_as_one(self):
        self.assertEqual(read_bar(SIX, ["never mixed", [[3, 0], (1, 0), [3, 0]]]), ("never mixed", ((1, 0), (3, 0))))

    def test_no_bars(self):
        for thing in no_bars():
            self.assertIsNone(read_bar(EXAMPLE, thing), thing)
            raises(self, BadBar, {"index": 0}, bar_holds, EXAMPLE, thing)
            raises(self, BadBar, {"index": 2}, check_bars, EXAMPLE, [*GOOD[:2], thing, None])


class TestCheckBars(unittest.TestCase):
    def test_values(self):
        found = leaves_alone(self, check_bars, EXAMPLE, [as_lists(bar) for bar in GOOD[1:]])
        self.assertEqual(found, GOOD[1:])
        all_tuples(self, found)
        self.assertEqual(check_bars(EXAMPLE, ()), ())
        self.assertEqual(check_bars(EXAMPLE, (WIDE, WIDE)), (WIDE, WIDE))

    def test_errors(self):
        for thing in ([WIDE] * 5, (None,) * 5, {0: WIDE}, *ODD_THINGS):
            raises(self, BadBar, {"index": 0}, check_bars, EXAMPLE, thing)


class TestBarHolds(unittest.TestCase):
    def test_told_values(self):
        self.assertTrue(bar_holds(EXAMPLE, ("unseen", 0, (4, 0))))
        self.assertFalse(bar_holds(EXAMPLE, ("seen", 0, (4, 0))))
        self.assertTrue(leaves_alone(self, bar_holds, EXAMPLE, ["seen", 0, [3, 0]]))
        self.assertFalse(bar_holds(EXAMPLE, ("unseen", 0, (3, 0))))
        self.assertTrue(bar_holds(EXAMPLE, ("unseen", 0, (0, 0))))  # no ink there
        self.assertFalse(bar_holds(EXAMPLE, ("seen", 0, (0, 0))))
        self.assertTrue(bar_holds(EXAMPLE, ("shows", (9, 9), ())))
        self.assertFalse(bar_holds(EXAMPLE, ("shows", (9, 9), (0,))))
        self.assertFalse(bar_holds(EXAMPLE, ("shows", (2, 0), (0, 1))))  # a hiding plate above
        self.assertTrue(bar_holds(SIX, ("shows", (2, 0), (0, 1))))
        self.assertFalse(bar_holds(SIX, ("never mixed", ((2, 0), (9, 9)))))
        self.assertTrue(bar_holds(SIX, ("never mixed", ((1, 0), (9, 9)))))
        for most in range(5):
            self.assertEqual(bar_holds(SIX, ("widest", 0, (0, 6), (0, 1), "mixed", most)), most >= 2)
        self.assertTrue(bar_holds(SIX, ("widest", 0, (0, 1), (0, 1), "mixed", 0)))

    def test_by_all_whole_slips(self):
        draws = Draws(851)
        met = set()
        for job in drawn_jobs(852, 150):
            for _ in range(3):
                bar = drawn_bar(draws, job)
                held = bar_holds(job, bar)
                self.assertEqual(held, plain_bar(job, bar), bar)
                met.add((bar[0], held))
        self.assertEqual(len(met), 10)

    def test_slips_that_are_not_whole(self):
        """What is barred at all slips does not come at drawn ones."""
        draws = Draws(853)
        for job in drawn_jobs(854, 80):
            bar = drawn_bar(draws, job)
            held = bar_holds(job, bar)
            for _ in range(6):
                slips = drawn_slips(draws, job)
                cell = draws.one_of(bar[1] if bar[0] == "never mixed" and bar[1] else cells_about(job))
                place = place_in(draws, bar[1] if bar[0] == "shows" else cell)
                if not on_no_line(job, slips, place):
                    continue
                shown = plain_showing(job, slips, place)
                if bar[0] == "shows" and not held:
                    self.assertNotEqual(shown, bar[2])
                if bar[0] == "never mixed" and held and cell in bar[1]:
                    self.assertFalse(plain_kind(shown, "mixed"))

    def test_nothing_is_changed(self):
        bar = as_lists(WIDE)
        before = copy.deepcopy(bar)
        bar_holds(EXAMPLE, bar)
        check_bars(EXAMPLE, [bar])
        self.assertEqual(bar, before)


if __name__ == "__main__":
    unittest.main()
