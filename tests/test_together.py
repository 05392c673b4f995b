import unittest

from neverbare.errors import BadGroup, NoPlate, TooMany
from neverbare.jobs import Job
from neverbare.leastjob import least_job
from neverbare.plates import Plate
from neverbare.samples import apart_samples
from neverbare.slips import check_slips
from neverbare.together import (
    Counts, Parted, Together, always_together, counts_at_all, hole_counts, holding_slips, parted_fault, piece_counts,
)
from tests.helping import (
    BAD_GROUPS, BAD_PLACES, BAD_SLIPS, EXAMPLE, ODD_THINGS, STILL, ZERO, Draws, all_tuples, drawn_job, drawn_jobs,
    drawn_slips, leaves_alone, middle, raises, refuses,
)
from tests.test_pieces import RING, all_groups, plain_holes, plain_pieces

LEFT, RIGHT = ((-1, 1), ZERO), ((1, 1), ZERO)
INK = [(0, 0)]
# More than 400 samples.
MANY = Job(1, 1, [Plate(INK, False, (2, 2))] * 3)


def line_job(one, other):
    return Job(4, 1, [Plate([(x, 0) for x in one], False, (1, 0)), Plate([(x, 0) for x in other], False, (1, 0))])


# The jobs of [7.10].
TWO = line_job((0, 1), (2, 3))


def some_jobs(seed, many):
    """Drawn jobs with at most 400 samples."""
    return [job for job in drawn_jobs(seed, many, bounds=((0, 0), (1, 0), (0, 1)), width=None, height=2)
            if len(job) < 3 or all(plate.bound == (0, 0) for plate in job.plates[1:])]


class TestExample(unittest.TestCase):
    def test_two_plates_beside_one_another(self):
        self.assertEqual(len(apart_samples(TWO)), 9)
        found = leaves_alone(self, piece_counts, TWO, [0, 1])
        self.assertEqual((found.least, found.most), (1, 2))
        for slips, pieces, holes in counts_at_all(TWO, (0, 1)):
            apart = slips[0][0][0] * slips[1][0][1] - slips[1][0][0] * slips[0][0][1]
            self.assertEqual((pieces, holes), (2 if apart < 0 else 1, 0))
        self.assertIsInstance(always_together(TWO, (0, 1)), Parted)

    def test_only_differences_below_minus_one_part_them(self):
        job = line_job((0, 1), (1, 2))
        for slips, pieces, _ in counts_at_all(job, (0, 1)):
            apart = (slips[0][0][0] * slips[1][0][1] - slips[1][0][0] * slips[0][0][1]) / (slips[0][0][1] * slips[1][0][1])
            self.assertEqual(pieces, 2 if apart < -1 else 1)

    def test_together(self):
        self.assertEqual(always_together(line_job((0, 1, 2), (1,)), (0, 1)), Together(9))


class TestAlwaysTogether(unittest.TestCase):
    def test_told_values(self):
        self.assertEqual(leaves_alone(self, always_together, EXAMPLE, [1]), Together(9))
        found = always_together(TWO, [0, 1])
        self.assertEqual(found.slips, apart_samples(TWO)[0])
        all_tuples(self, (found.slips, found.place, found.other))
        self.assertIsNone(parted_fault(TWO, (0, 1), found))
        self.assertEqual(always_together(Job(1, 1, [Plate([])]), (0,)), Together(1))
        self.assertIsInstance(always_together(Job(3, 1, [Plate([(0, 0), (2, 0)])]), (0,)), Parted)

    def test_a_place_on_no_line_of_a_plate_without_ink(self):
        job = Job(5, 3, [Plate([(0, 0), (4, 2)], False, (0, 0)), Plate([], False, (1, 1)), Plate([(2, 1)], False, (1, 1))])
        for group in ((0,), (0, 2)):
            found = always_together(job, group)
            self.assertIsNone(parted_fault(job, group, found))

    def test_a_place_on_no_line_of_a_plate_with_ink_elsewhere(self):
        # At the first sample the other plates slip by 1/4 and 1/2, and their lines cut the cell (0, 0), too.
        bound = (1, 0)
        job = Job(8, 1, [Plate([(0, 0), (7, 0)], False, (0, 0)), Plate([(2, 0)], False, bound), Plate([(6, 0)], False, bound)])
        for other in (job, job.turned()):
            found = always_together(other, (0,))
            self.assertIsNone(parted_fault(other, (0,), found))

    def test_all_slips(self):
        draws = Draws(581)
        for job in some_jobs(582, 120):
            for group in all_groups(job):
                found = always_together(job, group)
                if isinstance(found, Parted):
                    self.assertIsNone(parted_fault(job, group, found))
                    self.assertEqual(check_slips(job, found.slips), found.slips)
                else:
                    self.assertEqual(found, Together(len(apart_samples(job))))
                    for _ in range(2):
                        self.assertLess(len(plain_pieces(job, drawn_slips(draws, job), group)), 2)

    def test_errors(self):
        for call in (always_together, counts_at_all, piece_counts, hole_counts):
            refuses(self, call, [EXAMPLE, None], 1, BadGroup, BAD_GROUPS)
            raises(self, BadGroup, {}, call, MANY, ())
            raises(self, TooMany, {"most": 400}, call, MANY, (0,))


class TestPartedFault(unittest.TestCase):
    GOOD = (LEFT, RIGHT)

    def fault(self, *parts):
        return parted_fault(TWO, [0, 1], Parted(*parts))

    def test_right(self):
        self.assertIsNone(self.fault(self.GOOD, middle((0, 0)), middle((3, 0))))
        self.assertIsNone(self.fault([STILL, ((1, 9), ZERO)], [(9, 5), (1, 7)], [(22, 7), (1, 7)]))
        self.assertIsNone(parted_fault(MANY, (0, 1, 2), Parted(
            (((-2, 1), ZERO), STILL, ((2, 1), ZERO)), middle((-2, 0)), middle((2, 0)))))

    def test_wrong(self):
        for thing in (None, (), Together(9), (self.GOOD, middle((0, 0)), middle((3, 0))), *ODD_THINGS):
            self.assertEqual(parted_fault(TWO, (0, 1), thing), "parted")
        for thing, _ in BAD_SLIPS:
            self.assertEqual(parted_fault(EXAMPLE, (0, 1), Parted(thing, None, None)), "slips")
        good = middle((0, 0))
        for thing in [thing for thing, _ in BAD_PLACES] + [(ZERO, (1, 2)), ((1, 2), (1, 1)), middle((2, 0)), middle((0, 1)),
                                                           middle((9, 9))]:
            self.assertEqual(self.fault(self.GOOD, thing, None), "place")
            self.assertEqual(self.fault(self.GOOD, good, thing), "other")
        empty = Job(3, 1, [Plate([(0, 0), (2, 0)], False, (1, 0)), Plate([], False, (1, 0))])
        slips = (STILL, ((1, 2), ZERO))
        self.assertEqual(parted_fault(empty, (0,), Parted(slips, good, None)), "place")
        self.assertEqual(parted_fault(empty, (1,), Parted(slips, ((1, 3), (1, 2)), None)), "place")
        self.assertIsNone(parted_fault(empty, (0,), Parted(slips, ((1, 3), (1, 2)), ((7, 3), (1, 2)))))
        self.assertEqual(self.fault(self.GOOD, good, ((-1, 2), (1, 2))), "piece")
        self.assertEqual(self.fault(self.GOOD, good, good), "piece")
        self.assertEqual(self.fault((STILL, STILL), good, middle((3, 0))), "piece")

    def test_errors(self):
        refuses(self, parted_fault, [EXAMPLE, None, None], 1, BadGroup, BAD_GROUPS)


class TestCounts(unittest.TestCase):
    def test_told_values(self):
        found = leaves_alone(self, counts_at_all, TWO, [1])
        self.assertEqual(found, tuple((slips, 1, 0) for slips in apart_samples(TWO)))
        all_tuples(self, found)
        still = Job(3, 3, [Plate(RING.plates[0].cells, False, (0, 0))])
        self.assertEqual(counts_at_all(still, (0,)), (((STILL,), 1, 1),))
        self.assertEqual(hole_counts(still, (0,)), Counts(1, (STILL,), 1, (STILL,)))

    def test_first_samples(self):
        for job in some_jobs(583, 60):
            for group in all_groups(job):
                rows = counts_at_all(job, group)
                self.assertEqual([row[0] for row in rows], list(apart_samples(job)))
                for at, call in ((1, piece_counts), (2, hole_counts)):
                    numbers = [row[at] for row in rows]
                    self.assertEqual(call(job, group), Counts(
                        min(numbers), rows[numbers.index(min(numbers))][0],
                        max(numbers), rows[numbers.index(max(numbers))][0]))

    def test_all_slips(self):
        draws = Draws(584)
        for job in some_jobs(585, 60):
            group = draws.one_of(all_groups(job))
            pieces, holes = piece_counts(job, group), hole_counts(job, group)
            for counts, call in ((pieces, plain_pieces), (holes, plain_holes)):
                self.assertEqual(len(call(job, counts.least_slips, group)), counts.least)
                self.assertEqual(len(call(job, counts.most_slips, group)), counts.most)
                slips = drawn_slips(draws, job)
                self.assertTrue(counts.least <= len(call(job, slips, group)) <= counts.most)

    def test_holes_and_pieces_of_a_ring(self):
        found = hole_counts(RING, (0,))
        self.assertEqual((found.least, found.most), (0, 1))
        self.assertEqual(hole_counts(RING, (1,)).most, 0)

    def test_jobs_that_look_alike_and_jobs_seen_otherwise(self):
        draws = Draws(586)

        def ends(job, group):
            counts = (piece_counts(job, group), hole_counts(job, group))
            return [(one.least, one.most) for one in counts]
        for job in some_jobs(587, 60):
            group = draws.one_of(all_groups(job))
            found = ends(job, group)
            self.assertEqual(ends(least_job(job), group), found)
            for other in (job.mirrored(0), job.mirrored(1), job.turned()):
                self.assertEqual(ends(other, group), found)
            if len(job) < 3 and job.width < 4:
                self.assertEqual(ends(job.finer(2), group), found)
            if len(job) < 3:
                for (least, most), (low, high) in zip(ends(job.with_bound(0, (1, 1)), group), found):
                    self.assertTrue(least <= low and high <= most)

    def test_greater_bounds(self):
        draws = Draws(588)
        for _ in range(10):
            job = drawn_job(draws, width=3, height=2, many=2, bounds=((0, 0), (1, 0)))
            for one, other in (((1, 0), (1, 1)), ((1, 1), (2, 1))):
                counts = piece_counts(job.with_bound(0, one), (0, 1)), piece_counts(job.with_bound(0, other), (0, 1))
                self.assertTrue(counts[1].least <= counts[0].least and counts[0].most <= counts[1].most)


class TestHoldingSlips(unittest.TestCase):
    JOB = Job(3, 1, [Plate([(0, 0), (2, 0)], False, (0, 0)), Plate([(1, 0)], False, (1, 0))])

    def test_told_values(self):
        self.assertEqual(leaves_alone(self, holding_slips, self.JOB, [0, 1], 1), (STILL, STILL))
        all_tuples(self, holding_slips(self.JOB, [0, 1], 1))
        self.assertIsNone(holding_slips(self.JOB, (0, 1), 0))
        self.assertIsNone(holding_slips(self.JOB, (0,), 0))
        self.assertIsNone(holding_slips(self.JOB, [1], 1))

    def test_all_samples(self):
        met = 0
        for job in some_jobs(589, 100):
            for group in all_groups(job):
                for plate in group:
                    others = tuple(one for one in group if one != plate)
                    held = [slips for slips in apart_samples(job) if len(plain_pieces(job, slips, group)) < 2
                            and len(plain_pieces(job, slips, others)) > 1] if len(job.plates) < 3 else None
                    found = holding_slips(job, group, plate)
                    if held is not None:
                        self.assertEqual(found, held[0] if held else None)
                        met += bool(held)
        self.assertGreater(met, 3)

    def test_errors(self):
        refuses(self, holding_slips, [EXAMPLE, (0,), 0], 1, BadGroup, BAD_GROUPS)
        for thing in (1, 2, -1, *ODD_THINGS):
            raises(self, NoPlate, {"plate": thing}, holding_slips, EXAMPLE, (0,), thing)
        raises(self, NoPlate, {"plate": 0}, holding_slips, MANY, (1, 2), 0)
        raises(self, NoPlate, {"plate": True}, holding_slips, MANY, (1, 2), True)
        for group in ((0,), (0, 1)):
            raises(self, TooMany, {"most": 400}, holding_slips, MANY, group, 0)


class TestResults(unittest.TestCase):
    def test_kept_and_equal(self):
        for call, names in ((Together, ("samples",)), (Parted, ("slips", "place", "other")),
                            (Counts, ("least", "least_slips", "most", "most_slips"))):
            parts = [[at] for at in range(len(names))]
            one = call(*parts)
            self.assertEqual(list(vars(one).items()), list(zip(names, parts)))
            self.assertTrue(one == call(*parts))
            self.assertFalse(one != call(*parts))
            for at in range(len(names)):
                self.assertFalse(one == call(*parts[:at], [9], *parts[at + 1:]))
            self.assertFalse(one == tuple(parts))
        self.assertFalse(Together(9) == Counts(9, 9, 9, 9))


if __name__ == "__main__":
    unittest.main()
