import unittest
from fractions import Fraction

from neverbare.errors import BadAcross, BadAxis, BadKind, BadSlips, BadWindow, OnLine
from neverbare.jobs import Job
from neverbare.plates import Plate
from neverbare.runs import Run, check_window, run_fault, runs_at, widest_at
from neverbare.sheets import sheet_at, sheet_of
from neverbare.slips import mirrored_slips, turned_slips
from tests.helping import (
    BAD_AXES, BAD_BANDS, BAD_COUPLES, BAD_KINDS, BAD_RATIOS, BAD_SLIPS, BAD_WINDOWS, EXAMPLE, STILL, ZERO, Draws,
    all_kinds, all_tuples, as_ratio, at_axis, drawn_case, drawn_jobs, drawn_ratio, drawn_slips, leaves_alone, number,
    plain_kind, plain_lines, plain_runs, raises, refuses,
)

HALF = ((1, 2), ZERO)
LINE = (1, 2)


def as_ratios(runs):
    return tuple((as_ratio(low), as_ratio(high)) for low, high in runs)


class TestCheckWindow(unittest.TestCase):
    def test_windows(self):
        self.assertEqual(leaves_alone(self, check_window, [-20, 20]), (-20, 20))
        all_tuples(self, check_window([0, 1]))
        self.assertEqual(check_window((3, 4), "band"), (3, 4))

    def test_errors(self):
        for thing in BAD_COUPLES:
            raises(self, BadWindow, {"what": "window"}, check_window, thing)
            raises(self, BadWindow, {"what": "band"}, check_window, thing, "band")
            raises(self, BadWindow, {"what": "band"}, check_window, thing, what="band")


class TestRunsAt(unittest.TestCase):
    def test_told_values(self):
        slips = [[(1, 3), ZERO], STILL]
        self.assertEqual(leaves_alone(self, runs_at, EXAMPLE, slips, 0, LINE, [0, 7], "bare"), ((ZERO, (2, 1)),))
        self.assertEqual(runs_at(EXAMPLE, slips, 0, LINE, (-1, 9), "bare"), (((-1, 1), (2, 1)), ((7, 1), (9, 1))))
        self.assertEqual(runs_at(EXAMPLE, slips, 0, LINE, (0, 7), ("alone", 1)), (((2, 1), (7, 1)),))
        self.assertEqual(runs_at(EXAMPLE, (STILL, HALF), 0, LINE, (0, 7), ["shows", 0]), (((2, 1), (5, 2)),))
        self.assertEqual(runs_at(EXAMPLE, slips, 0, LINE, (0, 7), "mixed"), ())
        self.assertEqual(runs_at(EXAMPLE, slips, 0, (-1, 2), (0, 7), "bare"), ((ZERO, (7, 1)),))
        self.assertEqual(runs_at(EXAMPLE, slips, 1, (5, 2), (-3, 3), "bare"), (((-3, 1), ZERO), ((1, 1), (3, 1))))
        all_tuples(self, runs_at(EXAMPLE, slips, 0, LINE, [0, 7], "bare"))

    def test_unlike_showings_of_one_kind_are_one_run(self):
        job = Job(4, 1, [Plate([(0, 0), (1, 0)]), Plate([(1, 0), (2, 0)]), Plate([(2, 0), (0, 0)])])
        self.assertEqual(runs_at(job, [STILL] * 3, 0, LINE, (0, 4), "mixed"), ((ZERO, (3, 1)),))
        self.assertEqual(runs_at(job, [STILL] * 3, 0, LINE, (0, 4), ("shows", 0)), ((ZERO, (2, 1)),))

    def test_all_lines_cut(self):
        draws = Draws(501)
        for job in drawn_jobs(502, 60):
            slips = drawn_slips(draws, job)
            axis, window, band, _ = drawn_case(draws, job)
            for across in plain_lines(slips, axis, band):
                for kind in all_kinds(job):
                    found = runs_at(job, slips, axis, across, window, kind)
                    self.assertEqual(found, as_ratios(plain_runs(job, slips, axis, across, window, kind)))

    def test_long_lines(self):
        draws = Draws(511)
        for job in drawn_jobs(512, 40, width=8, height=1):
            slips = drawn_slips(draws, job)
            across = plain_lines(slips, 0, (0, 1))[0]
            for kind in all_kinds(job):
                found = runs_at(job, slips, 0, across, (-3, 11), kind)
                self.assertEqual(found, as_ratios(plain_runs(job, slips, 0, across, (-3, 11), kind)))

    def test_runs_are_those_of_the_printed_sheet(self):
        draws = Draws(503)
        for job in drawn_jobs(504, 60):
            slips = drawn_slips(draws, job)
            axis, window, band, kind = drawn_case(draws, job)
            sheet = sheet_of(job, slips)
            across = plain_lines(slips, axis, band)[0]
            lines = {number(line) for line in (sheet.xs, sheet.ys)[axis]} | {Fraction(end) for end in window}
            lines = sorted(line for line in lines if window[0] <= line <= window[1])
            runs = [(number(low), number(high)) for low, high in runs_at(job, slips, axis, across, window, kind)]
            for start, end in zip(lines, lines[1:]):
                showing = sheet_at(sheet, at_axis(axis, as_ratio((2 * start + end) / 3), across))
                self.assertEqual(plain_kind(showing, kind), any(low <= start and end <= high for low, high in runs))

    def test_jobs_seen_otherwise(self):
        draws = Draws(505)
        for job in drawn_jobs(506, 30, width=3, height=2):
            slips = drawn_slips(draws, job)
            kind = draws.one_of(all_kinds(job))
            for across in plain_lines(slips, 0, (0, 2)):
                runs = runs_at(job, slips, 0, across, (0, 3), kind)
                back = tuple(sorted(((3 - number(high), 3 - number(low)) for low, high in runs)))
                self.assertEqual(runs_at(job.mirrored(0), mirrored_slips(slips, 0), 0, across, (0, 3), kind),
                                 as_ratios(back))
                other = as_ratio(2 - number(across))
                self.assertEqual(runs_at(job.mirrored(1), mirrored_slips(slips, 1), 0, other, (0, 3), kind), runs)
                self.assertEqual(runs_at(job.turned(), turned_slips(slips), 1, other, (0, 3), kind), runs)

    def test_errors(self):
        good = [EXAMPLE, (HALF, STILL), 0, LINE, (0, 7), "bare"]
        refuses(self, runs_at, good, 1, BadSlips, BAD_SLIPS)
        refuses(self, runs_at, good, 2, BadAxis, BAD_AXES)
        refuses(self, runs_at, good, 3, BadAcross, [(thing, {}) for thing in BAD_RATIOS])
        refuses(self, runs_at, good, 4, BadWindow, BAD_WINDOWS)
        refuses(self, runs_at, good, 5, BadKind, BAD_KINDS)
        raises(self, BadKind, {}, runs_at, EXAMPLE, (HALF, STILL), 0, ZERO, (0, 7), "none")
        raises(self, OnLine, {"plate": 0}, runs_at, EXAMPLE, (HALF, STILL), 0, (-3, 1), (0, 7), "bare")
        raises(self, OnLine, {"plate": 1}, runs_at, EXAMPLE, (HALF, STILL), 1, (5, 1), (0, 7), "bare")
        raises(self, OnLine, {"plate": 0}, runs_at, EXAMPLE, (HALF, HALF), 1, (5, 2), (0, 7), "bare")
        empty = Job(1, 1, [Plate([(0, 0)], False, (0, 1)), Plate([])])
        raises(self, OnLine, {"plate": 1}, runs_at, empty, ((ZERO, (1, 2)), STILL), 0, (1, 1), (0, 1), "bare")


class TestRun(unittest.TestCase):
    def test_kept_and_equal(self):
        one = Run([1], (1, 2), (1, 3), (3, 2))
        self.assertEqual(list(vars(one).items()),
                         [("slips", [1]), ("across", (1, 2)), ("low", (1, 3)), ("high", (3, 2))])
        self.assertEqual(one.length, (7, 6))
        self.assertTrue(one == Run([1], (1, 2), (1, 3), (3, 2)))
        self.assertFalse(one != Run([1], (1, 2), (1, 3), (3, 2)))
        for at in range(4):
            parts = [[1], (1, 2), (1, 3), (3, 2)]
            parts[at] = (9, 1)
            self.assertFalse(one == Run(*parts))
        self.assertFalse(one == 1)


class TestRunFault(unittest.TestCase):
    def fault(self, *parts):
        return run_fault(EXAMPLE, 0, [0, 7], "bare", Run(*parts))

    def test_right(self):
        self.assertIsNone(self.fault((HALF, STILL), LINE, ZERO, (2, 1)))
        self.assertIsNone(self.fault([[(1, 2), ZERO], HALF], (9, 7), ZERO, (7, 1)))
        self.assertIsNone(run_fault(EXAMPLE, 0, (0, 7), ["shows", 0], Run((STILL, HALF), LINE, (2, 1), (5, 2))))

    def test_wrong(self):
        good = (HALF, STILL)
        for thing, _ in BAD_SLIPS:
            self.assertEqual(self.fault(thing, None, None, None), "slips")
        for across in (*BAD_RATIOS, ZERO, (5, 1)):
            self.assertEqual(self.fault(good, across, None, None), "across")
        for end in BAD_RATIOS:
            self.assertEqual(self.fault(good, LINE, end, (2, 1)), "ends")
            self.assertEqual(self.fault(good, LINE, ZERO, end), "ends")
        for low, high in ((ZERO, ZERO), ((2, 1), (1, 1)), ((-1, 9), (2, 1)), ((1, 1), (64, 9))):
            self.assertEqual(self.fault(good, LINE, low, high), "ends")
        for low, high in ((ZERO, (9, 4)), ((3, 1), (4, 1)), (ZERO, (7, 1))):
            self.assertEqual(self.fault(good, LINE, low, high), "shown")
        for low, high in ((ZERO, (1, 1)), ((1, 9), (2, 1)), ((1, 9), (1, 8))):
            self.assertEqual(self.fault(good, LINE, low, high), "longer")

    def test_lines_of_a_plate_without_ink(self):
        job = Job(3, 1, [Plate([(0, 0)], False, (1, 1)), Plate([], False, (1, 1))])
        slips = (((1, 2), (1, 2)), STILL)
        self.assertEqual(run_fault(job, 0, (0, 3), "bare", Run(slips, (1, 1), ZERO, (1, 2))), "across")
        # Along the line only the lines of cells can end a run.
        self.assertIsNone(run_fault(job, 0, (0, 3), "bare", Run(slips, (5, 4), (3, 2), (3, 1))))
        self.assertEqual(run_fault(job, 0, (0, 3), "bare", Run(slips, (5, 4), (2, 1), (3, 1))), "longer")

    def test_all_stretches(self):
        draws = Draws(507)
        for job in drawn_jobs(508, 40):
            slips = drawn_slips(draws, job)
            axis, window, band, kind = drawn_case(draws, job)
            across = plain_lines(slips, axis, band)[-1]
            runs = plain_runs(job, slips, axis, across, window, kind)
            for low, high in runs:
                self.assertIsNone(run_fault(job, axis, window, kind, Run(slips, across, as_ratio(low), as_ratio(high))))
            for _ in range(6):
                low, high = sorted([Fraction(window[0]) + abs(number(drawn_ratio(draws, 3))) for _ in range(2)])
                if low < high <= window[1]:
                    inside = [run for run in runs if run[0] <= low and high <= run[1]]
                    word = "shown" if not inside else None if inside == [(low, high)] else "longer"
                    run = Run(slips, across, as_ratio(low), as_ratio(high))
                    self.assertEqual(run_fault(job, axis, window, kind, run), word)

    def test_errors(self):
        good = [EXAMPLE, 0, (0, 7), "bare", None]
        refuses(self, run_fault, good, 1, BadAxis, BAD_AXES)
        refuses(self, run_fault, good, 2, BadWindow, BAD_WINDOWS)
        refuses(self, run_fault, good, 3, BadKind, BAD_KINDS)


class TestWidestAt(unittest.TestCase):
    def test_told_values(self):
        slips = [[(1, 2), ZERO], HALF]
        found = leaves_alone(self, widest_at, EXAMPLE, slips, 0, [0, 7], [0, 1], "bare")
        self.assertIsInstance(found, Run)
        self.assertEqual((found.slips, found.low, found.high), ((HALF, HALF), ZERO, (5, 2)))
        all_tuples(self, (found.slips, found.across, found.low, found.high))
        self.assertIsNone(widest_at(EXAMPLE, slips, 0, (0, 7), (0, 1), "mixed"))
        self.assertEqual(widest_at(EXAMPLE, slips, 0, (0, 7), (0, 2), "bare").length, (7, 1))
        self.assertEqual(widest_at(EXAMPLE, slips, 1, (-2, 4), (3, 7), "bare").length, (3, 1))

    def test_all_lines(self):
        draws = Draws(509)
        for job in drawn_jobs(510, 80):
            slips = drawn_slips(draws, job)
            axis, window, band, kind = drawn_case(draws, job)
            lengths = [high - low for across in plain_lines(slips, axis, band)
                       for low, high in plain_runs(job, slips, axis, across, window, kind)]
            found = widest_at(job, slips, axis, window, band, kind)
            self.assertEqual(found is None, lengths == [])
            if found is not None:
                self.assertEqual(number(found.length), max(lengths))
                self.assertIsNone(run_fault(job, axis, window, kind, found))
                self.assertTrue(band[0] < number(found.across) < band[1])
                self.assertEqual(found.slips, slips)

    def test_errors(self):
        good = [EXAMPLE, (HALF, STILL), 0, (0, 7), (0, 1), "bare"]
        refuses(self, widest_at, good, 1, BadSlips, BAD_SLIPS)
        refuses(self, widest_at, good, 2, BadAxis, BAD_AXES)
        refuses(self, widest_at, good, 3, BadWindow, BAD_WINDOWS)
        refuses(self, widest_at, good, 4, BadWindow, BAD_BANDS)
        refuses(self, widest_at, good, 5, BadKind, BAD_KINDS)


if __name__ == "__main__":
    unittest.main()
