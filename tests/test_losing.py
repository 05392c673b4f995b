import unittest

from neverbare.errors import BadRegion
from neverbare.jobs import Job
from neverbare.losing import bearable_losses, breaking_lot
from neverbare.plates import Plate
from neverbare.regions import Deep, never_bare
from tests.helping import (
    BAD_REGIONS, EXAMPLE, REGION, SIX, Draws, all_ink, all_lots, all_tuples, deep_regions, drawn_jobs, drawn_region,
    finer_cells, leaves_alone, less_ink, plain_never_bare, refuses, seen_otherwise, shows_something,
)

FULL = Job(3, 1, [Plate([(0, 0), (1, 0), (2, 0)], hiding, (1, 0)) for hiding in (False, True, False)])


def plain_losses(job, region):
    """The greatest n such that no lot of at most n inks bares the region when struck."""
    for lot in all_lots(all_ink(job), 3):
        if not plain_never_bare(less_ink(job, lot), region):
            return len(lot) - 1
    return None


class TestLosing(unittest.TestCase):
    def test_told_values(self):
        self.assertEqual(leaves_alone(self, bearable_losses, SIX, [[1, 0], [1, 0]]), 0)
        self.assertEqual(bearable_losses(SIX, REGION), -1)
        self.assertEqual(bearable_losses(SIX, [(4, 0), (1, 0)]), 0)
        self.assertIsNone(bearable_losses(SIX, ()))
        self.assertEqual(bearable_losses(EXAMPLE, [(3, 0)]), 1)
        self.assertEqual(bearable_losses(EXAMPLE, [(4, 0), (3, 0)]), 0)
        self.assertEqual(bearable_losses(FULL, [(1, 0)]), 2)
        self.assertEqual(bearable_losses(FULL, [(0, 0)]), -1)
        self.assertEqual(bearable_losses(FULL, [(1, 0), (9, 9)]), -1)

    def test_breaking_lots(self):
        self.assertEqual(leaves_alone(self, breaking_lot, SIX, [list(cell) for cell in REGION]), ())
        self.assertIsNone(breaking_lot(SIX, []))
        self.assertEqual(breaking_lot(FULL, [(20, -20)]), ())
        found = breaking_lot(FULL, [(1, 0)])
        self.assertEqual([plate for plate, _ in found], [0, 1, 2])
        all_tuples(self, found)

    def test_all_struck_lots(self):
        draws = Draws(801)
        met = set()
        cases = [(job, drawn_region(draws, job, 3)) for job in drawn_jobs(801, 40)]
        for job, region in cases + deep_regions(802, 120) + [(FULL, [(1, 0)])]:
            losses = plain_losses(job, region)
            if losses is None:
                continue
            met.add(losses)
            self.assertEqual(bearable_losses(job, region), losses)
            lot = breaking_lot(job, region)
            self.assertEqual(len(lot), losses + 1)
            self.assertEqual(lot, tuple(sorted(set(lot))))
            self.assertTrue(set(lot) <= set(all_ink(job)))
            self.assertFalse(plain_never_bare(less_ink(job, lot), region))
        self.assertLessEqual({-1, 0, 1, 2}, met)

    def test_slips_that_are_not_whole(self):
        draws = Draws(803)
        met = 0
        for job, region in deep_regions(804, 200):
            losses = bearable_losses(job, region)
            met += losses > 0
            for lot in all_lots(all_ink(job), losses):
                struck = less_ink(job, lot)
                self.assertIsInstance(never_bare(struck, region), Deep)
                shows_something(self, draws, struck, region, 2)
        self.assertGreater(met, 10)

    def test_jobs_seen_otherwise(self):
        for job, region in deep_regions(806, 60) + [(SIX, REGION), (FULL, [(0, 0)])]:
            losses = bearable_losses(job, region)
            lot = breaking_lot(job, region)
            for other, lead in seen_otherwise(job):
                moved = [lead(cell) for cell in region]
                self.assertEqual(bearable_losses(other, moved), losses)
                self.assertEqual(breaking_lot(other, moved) is None, lot is None)
            if job != SIX:
                self.assertEqual(bearable_losses(job.finer(2), finer_cells(region, 2)), losses)

    def test_errors(self):
        for call in (bearable_losses, breaking_lot):
            refuses(self, call, [SIX, []], 1, BadRegion, BAD_REGIONS)


if __name__ == "__main__":
    unittest.main()
