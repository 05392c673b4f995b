import unittest

from neverbare.covering import Covering, most_covered
from neverbare.errors import BadMany, BadRegion, TooMany
from neverbare.jobs import Job
from neverbare.needs import with_lot
from neverbare.plates import Plate
from neverbare.regions import bare_cells
from tests.helping import (
    BAD_FEW_REGIONS, BAD_REGIONS, ODD_THINGS, REGION, SIX, Draws, all_lots, all_tuples, drawn_jobs, free_ink,
    leaves_alone, led_lots, more_ink, plain_deep, raises, refuses, seen_otherwise, shows_something,
)


def plain_covering(job, region, many):
    """The most cells covered, and all least lots that do so, by trying all lots."""
    most, lots = -1, []
    for lot in all_lots(free_ink(job), min(many, len(free_ink(job)))):
        more = more_ink(job, lot)
        covered = sum(any(plain_deep(plate, cell) for plate in more.plates) for cell in set(region))
        if covered > most:
            most, lots = covered, []
        if covered == most and (not lots or len(lot) == len(lots[0])):
            lots.append(lot)
    return most, tuple(lots)


class TestMostCovered(unittest.TestCase):
    def test_told_values(self):
        found = leaves_alone(self, most_covered, SIX, [[1, 0], *REGION], 1)
        self.assertEqual(found, Covering(3, (((0, (3, 0)),), ((1, (2, 0)),))))
        self.assertEqual(most_covered(SIX, REGION, 0), Covering(2, ((),)))
        two = most_covered(SIX, REGION, 2)
        self.assertEqual((two.covered, len(two.lots)), (4, 3))
        all_tuples(self, two.lots)
        self.assertEqual(most_covered(SIX, REGION, 10 ** 40), two)
        self.assertEqual(most_covered(SIX, [(0, 0), (9, 9)], 5), Covering(0, ((),)))
        self.assertEqual(most_covered(SIX, [], 3), Covering(0, ((),)))

    def test_fewer_inks_than_let(self):
        """One more ink is let, but of no use."""
        self.assertEqual(most_covered(SIX, [(2, 0)], 2), Covering(1, (((0, (3, 0)),),)))

    def test_one_lot_that_covers_more_than_it_is_chosen_for(self):
        job = Job(4, 1, [Plate([(0, 0), (2, 0), (3, 0)], False, (1, 0)), Plate([], True, (1, 0))])
        self.assertEqual(most_covered(job, [(1, 0), (2, 0)], 1), Covering(2, (((0, (1, 0)),),)))

    def test_equal(self):
        one = Covering(1, ((),))
        self.assertEqual(one, Covering(1, ((),)))
        self.assertNotEqual(one, Covering(2, ((),)))
        self.assertNotEqual(one, Covering(1, ()))
        self.assertNotEqual(one, (1, ((),)))
        self.assertFalse(one != Covering(1, ((),)))

    def test_by_trying_all_lots(self):
        draws = Draws(821)
        met = set()
        for job in drawn_jobs(822, 300, width=3, height=2, bounds=((0, 0), (1, 0), (0, 1))):
            if len(free_ink(job)) > 8:
                continue
            region = [draws.one_of(job.field) for _ in range(draws.below(7))]
            many = draws.below(4)
            found = most_covered(job, region, many)
            self.assertEqual((found.covered, found.lots), plain_covering(job, region, many))
            met.add(found.covered)
        self.assertLessEqual({0, 1, 2, 3, 4}, met)

    def test_slips_that_are_not_whole_and_jobs_seen_otherwise(self):
        draws = Draws(823)
        for job in drawn_jobs(824, 40, width=3, height=3):
            region = [draws.one_of(job.field) for _ in range(draws.below(5))]
            found = most_covered(job, region, 3)
            for lot in found.lots[:3]:
                more = with_lot(job, lot)
                bare = bare_cells(more, region)
                self.assertEqual(len(set(region)) - len(bare), found.covered)
                shows_something(self, draws, more, [cell for cell in region if cell not in bare], 3)
            for other, lead in seen_otherwise(job):
                led = most_covered(other, [lead(cell) for cell in region], 3)
                self.assertEqual(led.covered, found.covered)
                self.assertEqual(sorted(led.lots), led_lots(found.lots, lead))

    def test_errors(self):
        refuses(self, most_covered, [SIX, [], 0], 1, BadRegion, BAD_REGIONS)
        refuses(self, most_covered, [SIX, [], 0], 1, TooMany, BAD_FEW_REGIONS)
        for thing in (-1, (0,), (1, 1), *ODD_THINGS):
            raises(self, BadMany, {}, most_covered, SIX, REGION, thing)


if __name__ == "__main__":
    unittest.main()
