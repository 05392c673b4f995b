import unittest
from fractions import Fraction

from neverbare.errors import BadAxis, BadKind, BadPush, BadRun, BadWindow
from neverbare.jobs import Job
from neverbare.plates import Plate
from neverbare.pushing import Push, carry_run, pushes_of, whole_run
from neverbare.runs import Run, run_fault
from neverbare.slips import check_slips
from tests.helping import (
    BAD_AXES, BAD_KINDS, BAD_RATIOS, BAD_WINDOWS, STILL, ZERO, Draws, all_kinds, all_tuples, as_ratio,
    drawn_case, drawn_job, drawn_slips, leaves_alone, number, plain_lines, plain_runs, raises, refuses,
)

LINE = (1, 2)
# Plate 0 lies from 1/3 to 10/3, plate 1, without ink, slips by 1/2, plate 2 lies at 4 + 3/4.
JOB = Job(8, 1, [
    Plate([(0, 0), (1, 0), (2, 0)], False, (1, 0)),
    Plate([], False, (1, 0)),
    Plate([(4, 0)], False, (1, 0)),
])
SLIPS = (((1, 3), ZERO), ((-1, 2), ZERO), ((3, 4), ZERO))
BARE = Run(SLIPS, LINE, (10, 3), (19, 4))  # between plate 0 and plate 2
INK = Run(SLIPS, LINE, (1, 3), (10, 3))


def slips_at(*row):
    return tuple((ratio, ZERO) for ratio in row)


def drawn_run(draws, job):
    """A job's axis, window, kind and a run at drawn slips."""
    slips = drawn_slips(draws, job)
    axis, window, band, _ = drawn_case(draws, job)
    across = draws.one_of(plain_lines(slips, axis, band))
    found = [(kind, plain_runs(job, slips, axis, across, window, kind)) for kind in all_kinds(job)]
    kind, runs = draws.one_of([row for row in found if row[1]])
    low, high = draws.one_of(runs)
    return axis, window, kind, Run(slips, across, as_ratio(low), as_ratio(high))


def drawn_runs(seed, many):
    draws = Draws(seed)
    for _ in range(many):
        job = drawn_job(draws, bounds=((1, 1), (1, 2), (2, 1)))
        axis, window, kind, run = drawn_run(draws, job)
        yield draws, job, axis, window, kind, run


def parts_of(slips, axis):
    return {number(slip[axis]) % 1 for slip in slips} - {0}


class TestCarryRun(unittest.TestCase):
    def carried(self, run, part, by, kind="bare"):
        return leaves_alone(self, carry_run, JOB, 0, [0, 8], kind, run, Push(part, by))

    def test_told_values(self):
        found = self.carried(BARE, (3, 4), (1, 4))
        self.assertIsInstance(found, Run)
        self.assertEqual(found, Run(slips_at((1, 3), (-1, 2), (1, 1)), LINE, (10, 3), (5, 1)))
        all_tuples(self, (found.slips, found.across, found.low, found.high))
        self.assertEqual(self.carried(BARE, (1, 3), (-1, 12)),
                         Run(slips_at((1, 4), (-1, 2), (3, 4)), LINE, (13, 4), (19, 4)))
        self.assertEqual(self.carried(BARE, (1, 3), (-1, 3)),
                         Run(slips_at((0, 1), (-1, 2), (3, 4)), LINE, (3, 1), (19, 4)))
        self.assertEqual(self.carried(BARE, (1, 2), (1, 4)),
                         Run(slips_at((1, 3), (-1, 4), (3, 4)), LINE, (10, 3), (19, 4)))
        self.assertEqual(self.carried(BARE, (1, 2), (-1, 6)),
                         Run(slips_at((1, 3), (-2, 3), (3, 4)), LINE, (10, 3), (19, 4)))
        self.assertEqual(self.carried(INK, (1, 3), (1, 6), ["alone", 0]),
                         Run(slips_at((1, 2), (-1, 2), (3, 4)), LINE, (1, 2), (7, 2)))

    def test_runs_that_meet(self):
        job = Job(4, 1, [Plate([(0, 0)], False, (1, 0)), Plate([(2, 0)], False, (0, 0))])
        slips = (((2, 3), ZERO), STILL)
        run = Run(slips, LINE, (5, 3), (2, 1))
        self.assertEqual(carry_run(job, 0, (0, 4), "bare", run, Push((2, 3), (-2, 3))),
                         Run((STILL, STILL), LINE, (1, 1), (2, 1)))
        ink = Job(4, 1, [Plate([(0, 0)], False, (1, 0)), Plate([(2, 0)], False, (0, 0)), Plate([(0, 0), (2, 0)], False, (1, 0))])
        run = Run((((2, 3), ZERO), STILL, ((2, 3), ZERO)), LINE, (5, 3), (2, 1))
        found = carry_run(ink, 0, (0, 4), "bare", run, Push((2, 3), (-1, 3)))
        self.assertEqual((found.low, found.high), ((4, 3), (2, 1)))
        mixed = Job(4, 1, [Plate([(0, 0), (1, 0)], True, (1, 0)), Plate([(2, 0)], True, (0, 0))])
        run = Run((((1, 3), ZERO), STILL), LINE, (1, 3), (2, 1))
        self.assertEqual(run_fault(mixed, 0, (0, 4), ("alone", 0), run), None)
        apart = Job(4, 1, [Plate([(0, 0), (2, 0)], False, (1, 0)), Plate([(1, 0)], False, (0, 0))])
        alone = Run((((-1, 3), ZERO), STILL), LINE, (5, 3), (1, 1))
        self.assertEqual(run_fault(apart, 0, (0, 4), ("alone", 1), alone), "ends")

    def test_the_run_that_holds_the_moved_ends(self):
        # Behind the push the gap between the two inks is closed: the run that holds the moved ends is longer.
        job = Job(4, 1, [Plate([(0, 0)], False, (1, 0)), Plate([(1, 0), (2, 0)], True, (0, 0))])
        run = Run((((-1, 3), ZERO), STILL), LINE, ZERO, (2, 3))
        kind = ("shows", 0)
        self.assertIsNone(run_fault(job, 0, (0, 4), kind, run))
        self.assertEqual(carry_run(job, 0, (0, 4), kind, run, Push((2, 3), (1, 3))),
                         Run((STILL, STILL), LINE, ZERO, (1, 1)))
        gap = Job(4, 1, [Plate([(0, 0), (3, 0)], True, (0, 0)), Plate([(2, 0)], False, (1, 0))])
        run = Run((STILL, ((1, 3), ZERO)), LINE, (1, 1), (7, 3))
        self.assertEqual(carry_run(gap, 0, (0, 4), "bare", run, Push((1, 3), (2, 3))),
                         Run((STILL, ((1, 1), ZERO)), LINE, (1, 1), (3, 1)))
        meet = Job(5, 1, [Plate([(0, 0), (1, 0)], False, (0, 0)), Plate([(2, 0), (3, 0)], False, (1, 0)),
                          Plate([(0, 0), (1, 0), (2, 0), (3, 0), (4, 0)], False, (0, 0))])
        run = Run((STILL, ((1, 3), ZERO), STILL), LINE, ZERO, (2, 1))
        self.assertEqual(carry_run(meet, 0, (0, 5), "mixed", run, Push((1, 3), (-1, 3))),
                         Run((STILL, STILL, STILL), LINE, ZERO, (4, 1)))

    def test_drawn_runs(self):
        for draws, job, axis, window, kind, run in drawn_runs(521, 250):
            parts = sorted(parts_of(run.slips, axis))
            if parts:
                at = draws.below(len(parts))
                low, high = ([0] + parts)[at], (parts + [1])[at + 1]
                ends = [number(run.low), number(run.high)]
                for to in (low, high, (low + parts[at]) / 2, (2 * high + parts[at]) / 3):
                    by = to - parts[at]
                    moved = [end + by if end % 1 == parts[at] else end for end in ends]
                    push = Push(as_ratio(parts[at]), as_ratio(by))
                    if moved[1] - moved[0] < ends[1] - ends[0]:
                        raises(self, BadPush, {"what": "narrower"}, carry_run, job, axis, window, kind, run, push)
                        continue
                    found = carry_run(job, axis, window, kind, run, push)
                    self.assertIsNone(run_fault(job, axis, window, kind, found))
                    self.assertTrue(number(found.low) <= moved[0] and moved[1] <= number(found.high))
                    for old, new in zip(run.slips, found.slips):
                        self.assertEqual(new[1 - axis], old[1 - axis])
                        step = by if number(old[axis]) % 1 == parts[at] else 0
                        self.assertEqual(number(new[axis]), number(old[axis]) + step)

    def test_errors(self):
        good = [JOB, 0, (0, 8), "bare", BARE, Push((1, 2), (1, 4))]
        refuses(self, carry_run, good, 1, BadAxis, BAD_AXES)
        refuses(self, carry_run, good, 2, BadWindow, BAD_WINDOWS)
        refuses(self, carry_run, good, 3, BadKind, [row for row in BAD_KINDS if row[0] != ("alone", 2)])

        def wrong(what, part, by, run=BARE, kind="bare"):
            raises(self, BadPush, {"what": what}, carry_run, JOB, 0, (0, 8), kind, run, Push(part, by))
        for part in (*BAD_RATIOS, (True, 2), [1, 2], ZERO, (1, 1), (1, 4), (-1, 2), (4, 3), (2, 3)):
            wrong("part", part, None)
        for by in (*BAD_RATIOS, ZERO, (-1, 5), (2, 7), (1, 1)):
            wrong("by", (1, 2), by)
        for by in ((-2, 5), (1, 5), (-1, 1)):
            wrong("by", (1, 3), by)
        for by in ((-2, 7), (2, 7)):
            wrong("by", (3, 4), by)
        wrong("narrower", (1, 3), (1, 6))
        wrong("narrower", (3, 4), (-1, 99))
        whole = Run(slips_at(ZERO, (1, 1), ZERO), LINE, (3, 1), (4, 1))
        wrong("part", (1, 2), (1, 4), whole)


class TestPushesOf(unittest.TestCase):
    def test_told_values(self):
        found = leaves_alone(self, pushes_of, JOB, 0, [0, 8], "bare", BARE)
        self.assertLessEqual(len(found), 3)
        all_tuples(self, found)
        whole = Run(slips_at(ZERO, (1, 1), ZERO), LINE, (3, 1), (4, 1))
        self.assertEqual(pushes_of(JOB, 0, (0, 8), "bare", whole), ())

    def test_they_can_be_carried(self):
        for _, job, axis, window, kind, run in drawn_runs(522, 250):
            found = pushes_of(job, axis, window, kind, run)
            self.assertLessEqual(len(found), len(parts_of(run.slips, axis)))
            now = run
            for push in found:
                self.assertIsInstance(push, Push)
                after = carry_run(job, axis, window, kind, now, push)
                self.assertGreaterEqual(number(after.length), number(now.length))
                now = after
            self.assertEqual(parts_of(now.slips, axis), set())


class TestWholeRun(unittest.TestCase):
    def test_told_values(self):
        found = leaves_alone(self, whole_run, JOB, 0, [0, 8], "bare", BARE)
        self.assertIsInstance(found, Run)
        self.assertIsNone(run_fault(JOB, 0, (0, 8), "bare", found))
        self.assertEqual((found.across, found.length), (LINE, (2, 1)))
        all_tuples(self, (found.slips, found.across, found.low, found.high))

    def test_drawn_runs(self):
        for _, job, axis, window, kind, run in drawn_runs(523, 250):
            found = whole_run(job, axis, window, kind, run)
            self.assertIsNone(run_fault(job, axis, window, kind, found))
            self.assertEqual(check_slips(job, found.slips), found.slips)
            self.assertTrue(all(ratio[1] == 1 for slip in found.slips for ratio in slip))
            self.assertEqual(number(found.across), number(run.across).__floor__() + Fraction(1, 2))
            self.assertGreaterEqual(number(found.length), number(run.length))

    def test_errors(self):
        for call in (carry_run, pushes_of, whole_run):
            more = [None] if call == carry_run else []
            good = [JOB, 0, (0, 8), "bare", BARE, *more]
            refuses(self, call, good, 1, BadAxis, BAD_AXES)
            refuses(self, call, good, 2, BadWindow, BAD_WINDOWS)
            refuses(self, call, good, 3, BadKind, [row for row in BAD_KINDS if row[0] != ("alone", 2)])
            for what, run in (
                ("slips", Run(SLIPS[:2], None, None, None)), ("across", Run(SLIPS, ZERO, None, None)),
                ("ends", Run(SLIPS, LINE, (10, 3), (10, 3))), ("shown", Run(SLIPS, LINE, (3, 1), (19, 4))),
                ("longer", Run(SLIPS, LINE, (10, 3), (4, 1))),
            ):
                raises(self, BadRun, {"what": what}, call, JOB, 0, (0, 8), "bare", run, *more)


class TestPush(unittest.TestCase):
    def test_kept_and_equal(self):
        one = Push([1], [2])
        self.assertEqual(list(vars(one).items()), [("part", [1]), ("by", [2])])
        self.assertTrue(one == Push([1], [2]))
        self.assertTrue(one != Push([2], [2]))
        self.assertFalse(one == Push([1], [1]))
        self.assertFalse(one == ([1], [2]))


if __name__ == "__main__":
    unittest.main()
