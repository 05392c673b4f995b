import unittest
from fractions import Fraction
from itertools import product

from neverbare.errors import BadAxis, BadKind, BadWindow, TooMany
from neverbare.jobs import Job
from neverbare.leastjob import least_job
from neverbare.plates import Plate
from neverbare.runs import widest_at
from neverbare.slips import check_slips
from neverbare.sure import Narrow, narrow_fault, narrowest_line, sure_stretches, surely_inked
from tests.helping import (
    BAD_AXES, BAD_BANDS, BAD_KINDS, BAD_RATIOS, BAD_SLIPS, BAD_WINDOWS, EXAMPLE, STILL, ZERO, Draws, all_kinds,
    all_tuples, as_ratio, at_axis, drawn_case, drawn_job, drawn_jobs, drawn_slips, leaves_alone, number, plain_kind,
    plain_lines, plain_runs, raises, refuses, whole_showing, whole_slips,
)

HALF = ((1, 2), ZERO)
LINE = (1, 2)
# The job of [6.8]: plate 0 six cells long, plate 1 one cell within it.
SIX = Job(8, 1, [Plate([(x, 0) for x in range(6)], False, (0, 0)), Plate([(2, 0)], True, (1, 0))])


def plain_stretches(job, axis, window, band, kind):
    steps = [step for step in range(*window) if all(
        plain_kind(whole_showing(job, slips, at_axis(axis, step, row)), kind)
        for slips in whole_slips(job) for row in range(*band))]
    lows = [step for step in steps if step - 1 not in steps]
    highs = [step + 1 for step in steps if step + 1 not in steps]
    return tuple(zip(lows, highs))


def plain_narrowest(job, axis, window, band, kind, bottom):
    """The least width at slips of this bottom along the axis, and whole ones across it."""
    own = []
    for plate in job.plates:
        along, across = plate.bound[axis], plate.bound[1 - axis]
        own.append([at_axis(axis, as_ratio(Fraction(u, bottom)), (v, 1))
                    for u in range(-along * bottom, along * bottom + 1) for v in range(-across, across + 1)])
    best = None
    for slips in product(*own):
        for row in range(*band):
            runs = plain_runs(job, slips, axis, (2 * row + 1, 2), window, kind)
            width = max([high - low for low, high in runs], default=Fraction(0))
            best = width if best is None else min(best, width)
    return best


class TestSureStretches(unittest.TestCase):
    def test_told_values(self):
        found = leaves_alone(self, sure_stretches, EXAMPLE, 0, [0, 7], [0, 1], "bare")
        self.assertEqual(found, ((0, 1),))
        all_tuples(self, found)
        self.assertEqual(sure_stretches(EXAMPLE, 0, (-2, 12), (0, 1), "bare"), ((-2, 1), (8, 12)))
        self.assertEqual(sure_stretches(EXAMPLE, 0, (0, 7), (0, 1), ["alone", 1]), ((3, 6),))
        self.assertEqual(sure_stretches(EXAMPLE, 0, (4, 7), (0, 1), ("alone", 1)), ((4, 6),))
        self.assertEqual(sure_stretches(EXAMPLE, 0, (0, 7), (0, 2), ("alone", 1)), ())
        self.assertEqual(sure_stretches(EXAMPLE, 1, (-2, 3), (3, 5), "bare"), ((-2, 0), (1, 3)))
        # Unlike showings of one kind are sure, too.
        job = Job(3, 1, [Plate([(0, 0), (1, 0), (2, 0)], False, (0, 0)), Plate([(1, 0)], False, (1, 0))])
        self.assertEqual(sure_stretches(job, 0, (0, 3), (0, 1), ("shows", 0)), ((0, 3),))

    def test_all_whole_slips(self):
        draws = Draws(541)
        for job in drawn_jobs(542, 100):
            axis, window, band, kind = drawn_case(draws, job)
            found = sure_stretches(job, axis, window, band, kind)
            self.assertEqual(found, plain_stretches(job, axis, window, band, kind))
            slips = drawn_slips(draws, job)
            for across in plain_lines(slips, axis, band):  # nor is it otherwise at slips that are not whole
                runs = plain_runs(job, slips, axis, across, window, kind)
                for low, high in found:
                    self.assertTrue(any(start <= low and high <= end for start, end in runs))

    def test_errors(self):
        good = [EXAMPLE, 0, (0, 7), (0, 1), "bare"]
        refuses(self, sure_stretches, good, 1, BadAxis, BAD_AXES)
        refuses(self, sure_stretches, good, 2, BadWindow, BAD_WINDOWS)
        refuses(self, sure_stretches, good, 3, BadWindow, BAD_BANDS)
        refuses(self, sure_stretches, good, 4, BadKind, BAD_KINDS)


class TestSurelyInked(unittest.TestCase):
    def test_told_values(self):
        self.assertIs(leaves_alone(self, surely_inked, EXAMPLE, 0, [0, 7], [0, 1]), True)
        self.assertIs(surely_inked(EXAMPLE, 0, (0, 4), (0, 1)), True)
        self.assertIs(surely_inked(EXAMPLE, 0, (0, 3), (0, 1)), False)
        self.assertIs(surely_inked(EXAMPLE, 0, (3, 5), (0, 1)), True)
        self.assertIs(surely_inked(EXAMPLE, 0, (0, 7), (0, 2)), False)

    def test_all_whole_slips(self):
        draws = Draws(543)
        for job in drawn_jobs(544, 100):
            axis, window, band, _ = drawn_case(draws, job)
            self.assertEqual(surely_inked(job, axis, window, band), all(
                any(whole_showing(job, slips, at_axis(axis, step, row)) for step in range(*window))
                for slips in whole_slips(job) for row in range(*band)))

    def test_errors(self):
        good = [EXAMPLE, 0, (0, 7), (0, 1)]
        refuses(self, surely_inked, good, 1, BadAxis, BAD_AXES)
        refuses(self, surely_inked, good, 2, BadWindow, BAD_WINDOWS)
        refuses(self, surely_inked, good, 3, BadWindow, BAD_BANDS)


class TestNarrowestLine(unittest.TestCase):
    def test_told_values(self):
        found = leaves_alone(self, narrowest_line, SIX, 0, [0, 8], [0, 1], ["alone", 0])
        self.assertIsInstance(found, Narrow)
        self.assertEqual(found, Narrow((5, 2), (STILL, HALF), LINE))
        all_tuples(self, (found.slips, found.across))
        self.assertEqual(narrowest_line(SIX, 0, (0, 8), (0, 2), ("alone", 0)).width, ZERO)
        one = Job(4, 1, [Plate([(1, 0)], False, (1, 0))])
        self.assertEqual(narrowest_line(one, 0, (0, 4), (0, 1), "bare"), Narrow((3, 2), (HALF,), LINE))
        self.assertEqual(narrowest_line(one, 0, (0, 3), (0, 1), "bare").width, (1, 1))
        self.assertEqual(narrowest_line(one, 0, (-20, 20), (-20, 20), "bare").width, (20, 1))
        third = Job(5, 1, [Plate([(1, 0)], False, (1, 0)), Plate([(3, 0)], False, (1, 0))])
        self.assertEqual(narrowest_line(third, 0, (0, 6), (0, 1), "bare").width, (4, 3))
        wide = Job(5, 1, [Plate([(1, 0)], False, (2, 0)), Plate([(3, 0)], False, (2, 0))])
        found = narrowest_line(wide, 0, (0, 7), (0, 1), "bare")
        self.assertEqual(found.width, (5, 3))
        self.assertIsNone(narrow_fault(wide, 0, (0, 7), (0, 1), "bare", found))

    def test_all_slips(self):
        draws = Draws(545)
        for _ in range(60):
            job = drawn_job(draws, many=draws.one_of((1, 2)), bounds=((1, 0), (0, 1), (1, 0), (2, 0)))
            axis, window, band, kind = drawn_case(draws, job)
            found = narrowest_line(job, axis, window, band, kind)
            self.assertEqual(number(found.width), plain_narrowest(job, axis, window, band, kind, 6))
            self.assertLessEqual(found.width[1], len(job) + 1)
            self.assertEqual(check_slips(job, found.slips), found.slips)
            self.assertTrue(all(ratio[1] <= len(job) + 1 for slip in found.slips for ratio in slip))
            self.assertIsNone(narrow_fault(job, axis, window, band, kind, found))
            for _ in range(3):
                slips = drawn_slips(draws, job)
                for across in plain_lines(slips, axis, band):
                    width = max([high - low for low, high in plain_runs(job, slips, axis, across, window, kind)],
                                default=Fraction(0))
                    self.assertGreaterEqual(width, number(found.width))
                    word = None if width == number(found.width) else "narrower"
                    narrow = Narrow(as_ratio(width), slips, across)
                    self.assertEqual(narrow_fault(job, axis, window, band, kind, narrow), word)

    def test_finer_slips_are_no_narrower(self):
        draws = Draws(546)
        for _ in range(12):
            job = drawn_job(draws, width=4, height=1, many=2, bounds=((1, 0),))
            kind = draws.one_of(all_kinds(job))
            found = narrowest_line(job, 0, (0, 5), (0, 1), kind)
            for bottom in (4, 5, 7):
                self.assertGreaterEqual(plain_narrowest(job, 0, (0, 5), (0, 1), kind, bottom), number(found.width))

    def test_jobs_seen_otherwise(self):
        draws = Draws(547)
        for job in [job for job in drawn_jobs(548, 50, width=3, height=2) if len(job) < 3]:
            kind = draws.one_of(all_kinds(job))
            width = narrowest_line(job, 0, (0, 3), (0, 2), kind).width
            for other in (least_job(job), job.mirrored(0), job.mirrored(1)):
                self.assertEqual(narrowest_line(other, 0, (0, 3), (0, 2), kind).width, width)
            self.assertEqual(narrowest_line(job.turned(), 1, (0, 3), (0, 2), kind).width, width)
            widest = widest_at(job, drawn_slips(draws, job), 0, (0, 3), (0, 2), kind)
            self.assertGreaterEqual(0 if widest is None else number(widest.length), number(width))

    def test_errors(self):
        three = Job(1, 1, [Plate([])] * 3)
        for call, more in ((narrowest_line, ()), (narrow_fault, (None,))):
            good = [EXAMPLE, 0, (0, 7), (0, 1), "bare", *more]
            refuses(self, call, good, 1, BadAxis, BAD_AXES)
            refuses(self, call, good, 2, BadWindow, BAD_WINDOWS)
            refuses(self, call, good, 3, BadWindow, BAD_BANDS)
            refuses(self, call, good, 4, BadKind, BAD_KINDS)
            raises(self, BadKind, {}, call, three, 0, (0, 7), (0, 1), "none", *more)
            raises(self, TooMany, {"most": 2}, call, three, 0, (0, 7), (0, 1), "bare", *more)


class TestNarrowFault(unittest.TestCase):
    def fault(self, *parts):
        return narrow_fault(SIX, 0, [0, 8], [0, 1], ["alone", 0], Narrow(*parts))

    def test_right(self):
        self.assertIsNone(self.fault((5, 2), (STILL, HALF), LINE))
        self.assertIsNone(self.fault((5, 2), [STILL, HALF], (7, 9)))

    def test_wrong(self):
        good = (STILL, HALF)
        for thing, _ in BAD_SLIPS:
            self.assertEqual(narrow_fault(EXAMPLE, 0, (0, 7), (0, 1), "bare", Narrow(None, thing, None)), "slips")
        self.assertEqual(self.fault(None, (HALF, STILL), None), "slips")
        for across in (*BAD_RATIOS, ZERO, (1, 1), (3, 2), (-1, 2), (99, 2)):
            self.assertEqual(self.fault(None, good, across), "across")
        for width in (*BAD_RATIOS, 2, (2, 1), (3, 1), ZERO):
            self.assertEqual(self.fault(width, good, LINE), "width")
        self.assertEqual(self.fault((3, 1), (STILL, STILL), LINE), "narrower")
        self.assertEqual(self.fault((7, 3), (STILL, ((1, 3), ZERO)), LINE), "width")
        self.assertEqual(self.fault((8, 3), (STILL, ((1, 3), ZERO)), LINE), "narrower")
        self.assertEqual(self.fault((8, 3), (STILL, ((2, 3), ZERO)), LINE), "narrower")
        upright = Job(1, 1, [Plate([(0, 0)], False, (0, 1))])
        line = Narrow((1, 1), ((ZERO, LINE),), (1, 1))
        self.assertEqual(narrow_fault(upright, 0, (0, 1), (0, 1), ("alone", 0), line), "across")
        self.assertEqual(narrow_fault(upright, 0, (0, 1), (0, 2), ("alone", 0), line), "narrower")
        line = Narrow((1, 1), ((ZERO, LINE),), (1, 2))
        self.assertEqual(narrow_fault(upright, 0, (0, 1), (0, 1), ("alone", 0), line), "across")
        line = Narrow((True, 1), (STILL,), LINE)
        self.assertEqual(narrow_fault(upright, 0, (0, 1), (0, 1), ("alone", 0), line), "width")
        none = Narrow(ZERO, ((ZERO, LINE),), (1, 4))
        self.assertIsNone(narrow_fault(upright, 0, (0, 1), (0, 1), ("alone", 0), none))


class TestNarrow(unittest.TestCase):
    def test_kept_and_equal(self):
        one = Narrow([1], [2], [3])
        self.assertEqual(list(vars(one).items()), [("width", [1]), ("slips", [2]), ("across", [3])])
        self.assertTrue(one == Narrow([1], [2], [3]))
        self.assertTrue(one != Narrow([9], [2], [3]))
        self.assertFalse(one == Narrow([1], [9], [3]))
        self.assertFalse(one == Narrow([1], [2], [9]))
        self.assertFalse(one == 1)


if __name__ == "__main__":
    unittest.main()
