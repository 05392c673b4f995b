import unittest

from neverbare.errors import BadRegion, StillBare
from neverbare.jobs import Job
from neverbare.needless import needed_ink, needless_ink, strip_job
from neverbare.needs import ink_of
from neverbare.plates import Plate
from tests.helping import (
    BAD_REGIONS, EXAMPLE, REGION, SIX, Draws, all_ink, all_tuples, deep_regions, finer_cells, inked_job, leaves_alone,
    led_lot, less_ink, plain_never_bare, raises, refuses, seen_otherwise, shows_something,
)


def plain_needed(job, region):
    return tuple(ink for ink in all_ink(job) if not plain_never_bare(less_ink(job, [ink]), region))


def plain_strip(job, region):
    for ink in all_ink(job):
        less = less_ink(job, [ink])
        if plain_never_bare(less, region):
            job = less
    return job


class TestNeedless(unittest.TestCase):
    def test_told_values(self):
        lot = leaves_alone(self, needed_ink, SIX, [[1, 0], [1, 0]])
        self.assertEqual(lot, ((0, (0, 0)), (0, (1, 0)), (0, (2, 0))))
        all_tuples(self, lot)
        other = leaves_alone(self, needless_ink, SIX, [[1, 0]])
        self.assertEqual(other, ((1, (3, 0)), (1, (4, 0)), (1, (5, 0))))
        all_tuples(self, other)
        self.assertEqual(leaves_alone(self, strip_job, SIX, [[1, 0]]), inked_job(SIX, lot))
        self.assertEqual(needed_ink(EXAMPLE, [(3, 0)]), ())
        self.assertEqual(needless_ink(EXAMPLE, [(3, 0)]), ink_of(EXAMPLE))
        # Plate 0 comes first and so is struck; then all of the other plate's need must stay.
        self.assertEqual(strip_job(EXAMPLE, [(3, 0)]), inked_job(EXAMPLE, [(1, (2, 0)), (1, (3, 0)), (1, (4, 0))]))

    def test_a_region_without_cells(self):
        self.assertEqual(needed_ink(SIX, ()), ())
        self.assertEqual(needless_ink(SIX, []), ink_of(SIX))
        self.assertEqual(strip_job(SIX, ()), inked_job(SIX, []))

    def test_striking_an_ink_early_makes_a_later_one_needed(self):
        job = Job(1, 1, [Plate([(0, 0)], False, (0, 0)), Plate([(0, 0)], True, (0, 0))])
        self.assertEqual(needed_ink(job, [(0, 0)]), ())
        self.assertEqual(strip_job(job, [(0, 0)]), inked_job(job, [(1, (0, 0))]))

    def test_by_striking(self):
        sizes = set()
        for job, region in deep_regions(831, 250, width=3, height=2):
            needed = needed_ink(job, region)
            self.assertEqual(needed, plain_needed(job, region))
            self.assertEqual(needless_ink(job, region), tuple(ink for ink in all_ink(job) if ink not in needed))
            stripped = strip_job(job, region)
            self.assertEqual(stripped, plain_strip(job, region))
            self.assertEqual(needed_ink(stripped, region), ink_of(stripped))
            sizes.add(len(needed))
        self.assertGreater(len(sizes), 3)

    def test_slips_that_are_not_whole(self):
        draws = Draws(833)
        for job, region in deep_regions(834, 120, width=4, height=3):
            shows_something(self, draws, strip_job(job, region), region)
            needless = needless_ink(job, region)
            if needless:
                shows_something(self, draws, less_ink(job, [draws.one_of(needless)]), region)

    def test_jobs_seen_otherwise(self):
        for job, region in deep_regions(835, 120, width=3, height=2):
            for other, lead in seen_otherwise(job):
                moved = [lead(cell) for cell in region]
                self.assertEqual(needed_ink(other, moved), led_lot(needed_ink(job, region), lead))
                self.assertEqual(needless_ink(other, moved), led_lot(needless_ink(job, region), lead))
            self.assertEqual(needed_ink(job.finer(2), finer_cells(region, 2)), tuple(sorted(
                (plate, cell) for plate, own in needed_ink(job, region) for cell in finer_cells([own], 2))))

    def test_errors(self):
        for call in (needed_ink, needless_ink, strip_job):
            refuses(self, call, [SIX, []], 1, BadRegion, BAD_REGIONS)
            raises(self, StillBare, {"cell": (2, 0)}, call, SIX, REGION)
            raises(self, StillBare, {"cell": (-3, 5)}, call, SIX, [[9, 9], [1, 0], [-3, 5]])
            raises(self, StillBare, {"cell": (3, 0)}, call, SIX, [(4, 0), (3, 0), (1, 0)])


if __name__ == "__main__":
    unittest.main()
