import inspect
import unittest

from neverbare.errors import BadRegion, StillBare, TooMany
from neverbare.jobs import Job
from neverbare.keeping import all_kept, least_kept
from neverbare.needless import needed_ink
from neverbare.plates import Plate
from tests.helping import (
    BAD_FEW_REGIONS, BAD_REGIONS, EXAMPLE, REGION, SIX, Draws, all_ink, all_lots, all_tuples, deep_regions, inked_job,
    leaves_alone, led_lots, plain_never_bare, raises, refuses, seen_otherwise, shows_something,
)


def plain_kept(job, region):
    """All irreducible kept lots, in order, by trying all."""
    kept = []
    for lot in all_lots(all_ink(job)):
        if not any(set(other) <= set(lot) for other in kept) and plain_never_bare(inked_job(job, lot), region):
            kept.append(lot)
    return kept


class TestKeeping(unittest.TestCase):
    def test_told_values(self):
        need = ((0, (0, 0)), (0, (1, 0)), (0, (2, 0)))
        self.assertEqual(list(all_kept(SIX, [[1, 0], (1, 0)])), [need])
        self.assertEqual(leaves_alone(self, least_kept, SIX, [[1, 0]]), (need,))
        all_tuples(self, least_kept(SIX, [[1, 0]]))
        both = [tuple((plate, (x, 0)) for x in (2, 3, 4)) for plate in (0, 1)]
        self.assertEqual(list(all_kept(EXAMPLE, [(3, 0)])), both)
        self.assertEqual(least_kept(EXAMPLE, [(3, 0)]), tuple(both))
        self.assertEqual(list(all_kept(SIX, ())), [()])
        self.assertEqual(least_kept(SIX, []), ((),))

    def test_lots_of_unlike_sizes(self):
        job = Job(3, 1, [Plate([(1, 0)], False, (0, 0)), Plate([(0, 0), (1, 0), (2, 0)], True, (1, 0))])
        large = ((1, (0, 0)), (1, (1, 0)), (1, (2, 0)))
        self.assertEqual(list(all_kept(job, [(1, 0)])), [((0, (1, 0)),), large])
        self.assertEqual(least_kept(job, [(1, 0)]), (((0, (1, 0)),),))

    def test_by_trying_all_lots(self):
        met = set()
        for job, region in deep_regions(841, 400, width=3, height=2, bounds=((0, 0), (1, 0), (0, 1))):
            if len(all_ink(job)) > 11:
                continue
            lots = list(all_kept(job, region))
            self.assertEqual(lots, plain_kept(job, region))
            self.assertEqual(least_kept(job, region), tuple(lot for lot in lots if len(lot) == len(lots[0])))
            self.assertEqual(needed_ink(job, region), tuple(
                ink for ink in all_ink(job) if all(ink in lot for lot in lots)))
            met.add(len(lots))
        self.assertLessEqual({1, 2, 4}, met)

    def test_slips_that_are_not_whole_and_jobs_seen_otherwise(self):
        draws = Draws(843)
        for job, region in deep_regions(844, 120, width=4, height=2):
            lots = list(all_kept(job, region))
            for lot in lots[:2]:
                shows_something(self, draws, inked_job(job, lot), region, 3)
            for other, lead in seen_otherwise(job):
                moved = [lead(cell) for cell in region]
                self.assertEqual(sorted(all_kept(other, moved)), led_lots(lots, lead))
                self.assertEqual(sorted(least_kept(other, moved)), led_lots(least_kept(job, region), lead))

    def test_it_yields(self):
        self.assertTrue(inspect.isgeneratorfunction(all_kept))

    def test_errors(self):
        for call in (lambda job, region: list(all_kept(job, region)), least_kept):
            refuses(self, call, [SIX, []], 1, BadRegion, BAD_REGIONS)
            refuses(self, call, [SIX, []], 1, TooMany, BAD_FEW_REGIONS)
            raises(self, StillBare, {"cell": (2, 0)}, call, SIX, REGION)
            raises(self, StillBare, {"cell": (0, 0)}, call, SIX, [(x, 0) for x in range(6)])


if __name__ == "__main__":
    unittest.main()
