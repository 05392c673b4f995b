import unittest

from neverbare.errors import BadAxis, BadKind, BadWindow
from neverbare.jobs import Job
from neverbare.leastjob import least_job
from neverbare.places import can_be_off
from neverbare.plates import Plate
from neverbare.regions import bare_cells
from neverbare.runs import Run, run_fault, widest_at
from neverbare.widest import widest_fault, widest_run
from tests.helping import (
    BAD_AXES, BAD_BANDS, BAD_KINDS, BAD_RATIOS, BAD_SLIPS, BAD_WINDOWS, EXAMPLE, STILL, ZERO, Draws, all_tuples, at_axis,
    drawn_case, drawn_job, drawn_jobs, drawn_slips, leaves_alone, number, plain_kind, refuses, whole_showing, whole_slips,
)

HALF = ((1, 2), ZERO)
LEFT, RIGHT = ((-1, 1), ZERO), ((1, 1), ZERO)
LINE = (1, 2)


def plain_widest(job, axis, window, band, kind):
    """The greatest length at all whole slips, 0 if no run comes."""
    most = 0
    for slips in whole_slips(job):
        for row in range(*band):
            size = 0
            for step in range(*window):
                size = size + 1 if plain_kind(whole_showing(job, slips, at_axis(axis, step, row)), kind) else 0
                most = max(most, size)
    return most


class TestWidestRun(unittest.TestCase):
    def test_told_values(self):
        found = leaves_alone(self, widest_run, EXAMPLE, 0, [0, 7], [0, 1], "bare")
        self.assertIsInstance(found, Run)
        self.assertEqual(found, Run((RIGHT, RIGHT), LINE, ZERO, (3, 1)))
        all_tuples(self, (found.slips, found.across, found.low, found.high))
        self.assertIsNone(widest_run(EXAMPLE, 0, (3, 5), (0, 1), "bare"))
        self.assertIsNone(widest_run(EXAMPLE, 0, (0, 7), (0, 1), "mixed"))
        self.assertEqual(widest_run(EXAMPLE, 0, (-20, 20), (-20, 20), "bare").length, (40, 1))
        rows = Job(8, 1, [Plate([(0, 0), (2, 0), (5, 0)], False, (0, 0))])
        self.assertEqual(widest_run(rows, 0, (-1, 6), (0, 1), "bare"), Run((STILL,), LINE, (3, 1), (5, 1)))
        self.assertEqual(widest_run(rows, 0, (1, 5), (0, 1), "bare"), Run((STILL,), LINE, (3, 1), (5, 1)))
        self.assertEqual(widest_run(EXAMPLE, 0, (0, 20), (0, 1), "bare").length, (14, 1))
        self.assertEqual(widest_run(EXAMPLE, 0, (0, 7), (0, 1), ("alone", 0)).length, (2, 1))

    def test_a_bare_run_comes_exactly_if_a_cell_is_deep_in_no_plate(self):
        draws = Draws(511)
        for job in drawn_jobs(512, 120, height=2):
            axis, window, band, _ = drawn_case(draws, job)
            cells = [at_axis(axis, step, row) for step in range(*window) for row in range(*band)]
            found = widest_run(job, axis, window, band, "bare")
            self.assertEqual(found is None, bare_cells(job, cells) == ())
            self.assertEqual(found is None, all(
                any(not can_be_off(job, plate, cell) for plate in range(len(job))) for cell in cells))

    def test_all_slips(self):
        draws = Draws(513)
        for job in drawn_jobs(514, 120):
            axis, window, band, kind = drawn_case(draws, job)
            most = plain_widest(job, axis, window, band, kind)
            found = widest_run(job, axis, window, band, kind)
            self.assertEqual(found is None, most == 0)
            if found is not None:
                self.assertEqual(found.length, (most, 1))
                self.assertIsNone(run_fault(job, axis, window, kind, found))
                all_tuples(self, (found.slips, found.across, found.low, found.high))
                self.assertTrue(all(ratio[1] == 1 for slip in found.slips for ratio in slip))
                self.assertTrue(band[0] < number(found.across) < band[1])
            self.assertIsNone(widest_fault(job, axis, window, band, kind, found))
            for _ in range(3):  # nor is any run at slips that are not whole longer
                slips = drawn_slips(draws, job)
                other = widest_at(job, slips, axis, window, band, kind)
                if other is not None:
                    self.assertLessEqual(number(other.length), most)

    def test_greater_bounds_and_windows(self):
        draws = Draws(515)
        for _ in range(15):
            job = drawn_job(draws, many=2, bounds=((2, 1), (1, 2), (2, 0)))
            axis, window, band, kind = drawn_case(draws, job)
            self.assertEqual(number(widest_run(job, axis, window, band, kind).length if
                                    widest_run(job, axis, window, band, kind) else ZERO),
                             plain_widest(job, axis, window, band, kind))

    def test_jobs_that_look_alike_and_jobs_seen_otherwise(self):
        draws = Draws(516)
        for job in drawn_jobs(517, 40, width=3, height=2):
            axis, _, _, kind = drawn_case(draws, job)
            window, band = ((0, 3), (0, 2)) if axis == 0 else ((0, 2), (0, 3))

            def size(other, axis, scale=1):
                windows = [tuple(scale * end for end in ends) for ends in (window, band)]
                found = widest_run(other, axis, *windows, kind)
                return ZERO if found is None else found.length
            most = size(job, axis)
            self.assertEqual(size(least_job(job), axis), most)
            self.assertEqual(size(job.mirrored(0), axis), most)
            self.assertEqual(size(job.mirrored(1), axis), most)
            self.assertEqual(size(job.turned(), 1 - axis), most)
            self.assertEqual(number(size(job.finer(2), axis, 2)), 2 * number(most))

    def test_more_ink_and_greater_bounds(self):
        draws = Draws(518)
        for job in drawn_jobs(519, 60):
            axis, window, band, _ = drawn_case(draws, job)

            def size(other):
                found = widest_run(other, axis, window, band, "bare")
                return 0 if found is None else number(found.length)
            plate = draws.below(len(job))
            free = [cell for cell in job.field if cell not in job.plates[plate].cells]
            if free:
                self.assertLessEqual(size(job.with_ink(plate, draws.one_of(free))), size(job))
            self.assertGreaterEqual(size(job.with_bound(plate, (1, 1))), size(job))

    def test_errors(self):
        for call in (widest_run, widest_fault):
            good = [EXAMPLE, 0, (0, 7), (0, 1), "bare"] + [None] * (call == widest_fault)
            refuses(self, call, good, 1, BadAxis, BAD_AXES)
            refuses(self, call, good, 2, BadWindow, BAD_WINDOWS)
            refuses(self, call, good, 3, BadWindow, BAD_BANDS)
            refuses(self, call, good, 4, BadKind, BAD_KINDS)


class TestWidestFault(unittest.TestCase):
    def fault(self, *parts):
        return widest_fault(EXAMPLE, 0, [0, 7], [0, 1], "bare", Run(*parts))

    def test_none(self):
        self.assertIsNone(widest_fault(EXAMPLE, 0, (0, 7), (0, 1), "mixed", None))
        self.assertEqual(widest_fault(EXAMPLE, 0, (0, 7), (0, 1), "bare", None), "wider")
        self.assertEqual(widest_fault(EXAMPLE, 0, (0, 1), (19, 20), "bare", None), "wider")

    def test_runs(self):
        self.assertIsNone(self.fault((RIGHT, RIGHT), LINE, ZERO, (3, 1)))
        self.assertIsNone(self.fault([RIGHT, RIGHT], (7, 9), ZERO, (3, 1)))
        for thing, _ in BAD_SLIPS:
            self.assertEqual(self.fault(thing, None, None, None), "slips")
        for thing in (*BAD_RATIOS, ZERO, (5, 1)):
            self.assertEqual(self.fault((HALF, STILL), thing, None, None), "across")
        self.assertEqual(self.fault((HALF, STILL), (3, 2), ZERO, (8, 1)), "ends")
        self.assertEqual(self.fault((HALF, STILL), LINE, ZERO, (3, 1)), "shown")
        self.assertEqual(self.fault((HALF, STILL), (3, 2), ZERO, (3, 1)), "longer")
        for across in ((3, 2), (-1, 2), (39, 2)):
            self.assertEqual(self.fault((HALF, STILL), across, ZERO, (7, 1)), "band")
        self.assertEqual(self.fault((HALF, STILL), LINE, ZERO, (2, 1)), "whole")
        self.assertEqual(self.fault((RIGHT, STILL), LINE, ZERO, (2, 1)), "wider")
        one = Job(3, 1, [Plate([(1, 0)], False, (0, 0))])
        self.assertIsNone(widest_fault(one, 0, (0, 3), (0, 1), "bare", Run([STILL], LINE, ZERO, (1, 1))))
        self.assertIsNone(widest_fault(one, 0, (0, 3), (0, 1), "bare", Run([STILL], LINE, (2, 1), (3, 1))))

    def test_the_rim_of_a_band_is_not_inside(self):
        job = Job(3, 1, [Plate([(1, 0)], False, (0, 1))])
        run = Run([(ZERO, (1, 2))], (1, 1), ZERO, (1, 1))
        self.assertIsNone(run_fault(job, 0, (0, 3), "bare", run))
        self.assertEqual(widest_fault(job, 0, (0, 3), (0, 1), "bare", run), "band")
        self.assertEqual(widest_fault(job, 0, (0, 3), (1, 2), "bare", run), "band")
        self.assertEqual(widest_fault(job, 0, (0, 3), (0, 2), "bare", run), "whole")


if __name__ == "__main__":
    unittest.main()
