import unittest

from neverbare.errors import NotLike, TooMany
from neverbare.jobs import Job
from neverbare.leastjob import alike_jobs, count_alike, greatest_job, is_between, least_job, spare_inks
from neverbare.plates import Plate
from tests.helping import (
    EXAMPLE, Draws, all_tuples, cells_about, drawn_jobs, drawn_plate, raises, whole_showing, whole_slips,
)
from tests.test_unseen import plain_seen


def looks(job):
    """All that the middles show at all whole slips."""
    return [whole_showing(job, slips, cell) for slips in whole_slips(job) for cell in cells_about(job)]


def like_jobs(draws, job, many):
    """Comparable jobs: other ink, with a bit of the same."""
    found = []
    for _ in range(many):
        plates = []
        for plate in job.plates:
            other = drawn_plate(draws, job.width, job.height, ink=3)
            cells = [cell for cell in job.field
                     if (cell in plate.cells) != (cell in other.cells and draws.below(6) == 0)]
            plates.append(Plate(cells, plate.hiding, plate.bound))
        found.append(Job(job.width, job.height, plates))
    return found


class TestLeastAndGreatest(unittest.TestCase):
    def test_example(self):
        self.assertEqual(least_job(EXAMPLE), EXAMPLE.without_ink(0, (4, 0)))
        self.assertEqual(greatest_job(EXAMPLE), EXAMPLE)
        self.assertEqual(spare_inks(EXAMPLE), ((0, (4, 0)),))
        self.assertEqual(count_alike(EXAMPLE), 2)
        self.assertEqual(list(alike_jobs(EXAMPLE)), [least_job(EXAMPLE), EXAMPLE])

    def test_ink_is_left_out_at_once(self):
        cells = [(x, 0) for x in range(3)]
        job = Job(3, 1, [Plate([(1, 0)], False, (0, 0)), Plate(cells, True, (0, 0)), Plate(cells, True, (0, 0))])
        self.assertEqual(least_job(job), Job(3, 1, [Plate([], False, (0, 0)), Plate([], True, (0, 0)), job.plates[2]]))
        self.assertEqual(greatest_job(job), Job(3, 1, [Plate(cells, False, (0, 0)), *job.plates[1:]]))

    def test_all_whole_slips(self):
        draws = Draws(461)
        for job in drawn_jobs(462, 120):
            least, greatest = least_job(job), greatest_job(job)
            seen = plain_seen(job)
            self.assertEqual([plate.cells for plate in least], [
                tuple(cell for cell in plate.cells if (number, cell) in seen)
                for number, plate in enumerate(job.plates)])
            for number, plate in enumerate(job.plates):
                for cell in job.field:
                    if cell not in plate.cells:
                        unseen = (number, cell) not in plain_seen(job.with_ink(number, cell))
                        self.assertEqual(cell in greatest.plates[number].cells, unseen)
                    else:
                        self.assertIn(cell, greatest.plates[number].cells)
            self.assertEqual(greatest.plates[-1], job.plates[-1])
            own = looks(job)
            self.assertEqual(looks(least), own)
            self.assertEqual(looks(greatest), own)
            for other in like_jobs(draws, job, 3):
                alike = looks(other) == own
                self.assertEqual(least_job(other) == least, alike)
                self.assertEqual(greatest_job(other) == greatest, alike)
                self.assertEqual(is_between(least, other, greatest), alike)

    def test_spare_inks(self):
        for job in drawn_jobs(463, 60):
            spare = spare_inks(job)
            all_tuples(self, spare)
            self.assertEqual(list(spare), sorted(spare))
            least, greatest = least_job(job), greatest_job(job)
            self.assertEqual(set(spare), {
                (number, cell) for number in range(len(job)) for cell in greatest.plates[number].cells
                if cell not in least.plates[number].cells})
            self.assertEqual(count_alike(job), 2 ** len(spare))

    def test_jobs_seen_otherwise(self):
        for job in drawn_jobs(464, 30, width=3, height=2):
            for change in (lambda job: job.mirrored(0), lambda job: job.mirrored(1), lambda job: job.turned()):
                self.assertEqual(least_job(change(job)), change(least_job(job)))
                self.assertEqual(greatest_job(change(job)), change(greatest_job(job)))
            self.assertEqual(least_job(job.finer(2)), least_job(job).finer(2))
            self.assertGreaterEqual(count_alike(job.finer(2)), count_alike(job))


class TestAlikeJobs(unittest.TestCase):
    def test_their_order(self):
        cells = [(x, 0) for x in range(3)]
        job = Job(3, 1, [Plate([(1, 0)], False, (0, 0)), Plate(cells, True, (0, 0))])
        found = list(alike_jobs(job))
        rows = [one.plates[0].cells for one in found]
        self.assertEqual(rows, [
            (), ((0, 0),), ((1, 0),), ((0, 0), (1, 0)), ((2, 0),), ((0, 0), (2, 0)), ((1, 0), (2, 0)), tuple(cells)])
        self.assertTrue(all(one.plates[1] == job.plates[1] for one in found))

    def test_too_many(self):
        cells = [(x, y) for x in range(3) for y in range(3)]
        nine = Job(3, 3, [Plate([], False, (0, 0)), Plate(cells, True, (0, 0))])
        self.assertEqual(count_alike(nine), 512)
        raises(self, TooMany, {"most": 256}, lambda: next(alike_jobs(nine)))
        eight = nine.without_ink(1, (2, 2))
        self.assertEqual((count_alike(eight), len(list(alike_jobs(eight)))), (256, 256))

    def test_all_of_them(self):
        for job in drawn_jobs(465, 60):
            if count_alike(job) <= 64:
                found = list(alike_jobs(job))
                self.assertEqual(len(found), count_alike(job))
                self.assertIn(job, found)
                own = looks(job)
                for one in found[:3] + found[-2:]:
                    self.assertEqual(looks(one), own)
                    self.assertTrue(is_between(least_job(job), one, greatest_job(job)))


class TestIsBetween(unittest.TestCase):
    def test_told_values(self):
        low, high = EXAMPLE.without_ink(0, (3, 0)), EXAMPLE.with_ink(1, (0, 0))
        self.assertIs(is_between(low, EXAMPLE, high), True)
        self.assertIs(is_between(EXAMPLE, EXAMPLE, EXAMPLE), True)
        self.assertIs(is_between(EXAMPLE, low, high), False)
        self.assertIs(is_between(low, high, EXAMPLE), False)
        self.assertIs(is_between(low, EXAMPLE.without_ink(1, (2, 0)), high), False)
        self.assertIs(is_between(low.with_ink(0, (0, 0)), EXAMPLE, high), False)
        self.assertIs(is_between(low.with_ink(1, (0, 0)), EXAMPLE, high), False)

    def test_errors(self):
        far = EXAMPLE.with_bound(1, (2, 0))
        raises(self, NotLike, {"what": "bound"}, is_between, far, EXAMPLE, Job(1, 1, [Plate([])]))
        raises(self, NotLike, {"what": "hiding"}, is_between, EXAMPLE, EXAMPLE, EXAMPLE.with_hiding(0, True))
        raises(self, NotLike, {"what": "many"}, is_between, EXAMPLE, Job(7, 1, [Plate([])]), EXAMPLE)
        raises(self, NotLike, {"what": "field"}, is_between, EXAMPLE, EXAMPLE, Job(6, 1, [Plate([])]))


if __name__ == "__main__":
    unittest.main()
