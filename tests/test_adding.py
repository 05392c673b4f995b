import inspect
import unittest

from neverbare.adding import added_fault, all_added, least_added
from neverbare.errors import BadLosses, BadRegion, TooMany
from neverbare.jobs import Job
from neverbare.losing import bearable_losses
from neverbare.needs import with_lot
from neverbare.plates import Plate
from tests.helping import (
    BAD_FEW_REGIONS, BAD_REGIONS, EXAMPLE, ODD_THINGS, REGION, SIX, Draws, all_ink, all_lots, all_tuples, dense_jobs,
    drawn_jobs, free_ink, leaves_alone, led_lots, less_ink, more_ink, plain_never_bare, raises, refuses,
    seen_otherwise, shows_something,
)
from tests.test_needs import BAD_INKS

# The three irreducible lots of [8.10].
LOTS = (((0, (3, 0)), (0, (4, 0))), ((0, (3, 0)), (1, (2, 0))), ((1, (1, 0)), (1, (2, 0))))
BAD_LOSSES = [(thing, {}) for thing in (-1, 3, (0,), (0, 1), *ODD_THINGS)]


def listed_lots(job, region, losses=0):
    return list(all_added(job, region, losses=losses))


def bears(job, region, losses):
    return all(plain_never_bare(less_ink(job, lot), region) for lot in all_lots(all_ink(job), losses))


def plain_added(job, region, losses):
    """All lots of missing ink that work, and the irreducible ones, in order, by trying all."""
    works = [lot for lot in all_lots(free_ink(job)) if bears(more_ink(job, lot), region, losses)]
    least = []
    for lot in works:
        if not any(set(other) < set(lot) for other in works):
            least.append(lot)
    return works, least


def inner_region(draws, job, most):
    """Cells of the field, most of them those whose need for the bound (1, 0) can be met."""
    return [draws.one_of([(1, y) for y in range(job.height)] + [job.field[0]] * (draws.below(4) == 0))
            for _ in range(draws.below(most + 1))]


def some_cases(seed, many, most):
    """Jobs that lack few inks, with regions and numbers of losses."""
    draws = Draws(seed)
    found = []
    for job in dense_jobs(seed + 1, many * 6, bounds=((0, 0), (1, 0), (1, 0))):
        free = free_ink(job)
        if len(free) <= most and len(found) < many:
            found.append((job, inner_region(draws, job, 3), draws.below(3) if len(free) < 5 else draws.below(2)))
    return found


class TestAllAdded(unittest.TestCase):
    def test_told_values(self):
        self.assertEqual(tuple(listed_lots(SIX, [[2, 0], *REGION])), LOTS)
        self.assertEqual(leaves_alone(self, least_added, SIX, [list(cell) for cell in REGION]), LOTS)
        all_tuples(self, LOTS)
        for lot in listed_lots(SIX, REGION):
            all_tuples(self, lot)
        self.assertEqual(listed_lots(SIX, [(1, 0)]), [()])
        self.assertEqual(least_added(SIX, [(1, 0)]), ((),))
        self.assertEqual(listed_lots(SIX, [(0, 0)]), [])
        self.assertEqual(least_added(SIX, [(0, 0)]), ())
        self.assertEqual(listed_lots(SIX, [(1, 0), (5, 5)]), [])
        for losses in (0, 1, 2):
            self.assertEqual(listed_lots(SIX, (), losses), [()])
            self.assertEqual(least_added(SIX, (), losses=losses), ((),))
        self.assertEqual(listed_lots(SIX, [(1, 0)], 2), [])
        self.assertEqual(least_added(SIX, [(1, 0)], losses=2), ())
        self.assertEqual(least_added(SIX, [(1, 0)], losses=1), (((1, (0, 0)), (1, (1, 0)), (1, (2, 0))),))

    def test_lots_of_unlike_sizes(self):
        """A lot of more inks is irreducible, too, if it holds no other one."""
        job = Job(3, 1, [Plate([(1, 0), (2, 0)], False, (1, 0)), Plate([], False, (1, 0))])
        self.assertEqual(listed_lots(job, [(1, 0)]), [((0, (0, 0)),), ((1, (0, 0)), (1, (1, 0)), (1, (2, 0)))])
        self.assertEqual(least_added(job, [(1, 0)]), (((0, (0, 0)),),))

    def test_by_trying_all_lots(self):
        sizes = set()
        for job, region, losses in some_cases(811, 150, 8):
            works, least = plain_added(job, region, losses)
            self.assertEqual(listed_lots(job, region, losses), least)
            self.assertEqual(least_added(job, region, losses=losses),
                             tuple(lot for lot in least if len(lot) == len(least[0])))
            for lot in all_lots(free_ink(job)):
                if lot not in works:
                    word = "bare"
                elif lot not in least:
                    word = "needless"
                else:
                    word = "more" if len(lot) > len(least[0]) else None
                self.assertEqual(added_fault(job, region, lot, losses=losses), word)
                sizes.add(word)
        self.assertEqual(sizes, {"bare", "needless", "more", None})

    def test_a_lot_works_exactly_if_it_bears_the_losses(self):
        for job, region, losses in some_cases(812, 80, 12):
            for lot in listed_lots(job, region, losses)[:4]:
                found = bearable_losses(with_lot(job, lot), region)
                self.assertTrue(found is None or found >= losses)
                if losses == 0 and lot:
                    self.assertFalse(plain_never_bare(more_ink(job, lot[1:]), region))

    def test_slips_that_are_not_whole(self):
        draws = Draws(813)
        met = 0
        for job in drawn_jobs(814, 60, width=4, height=3):
            region = [(1 + draws.below(2), 1) for _ in range(draws.below(4))]
            for lot in listed_lots(job, region)[:3]:
                met += len(region) > 0
                shows_something(self, draws, with_lot(job, lot), region)
        self.assertGreater(met, 20)

    def test_jobs_seen_otherwise(self):
        draws = Draws(815)
        for job in drawn_jobs(816, 40, width=3, height=3):
            region = inner_region(draws, job, 3)
            losses = draws.below(2)
            lots = listed_lots(job, region, losses)
            for other, lead in seen_otherwise(job):
                moved = [lead(cell) for cell in region]
                found = listed_lots(other, moved, losses)
                self.assertEqual(sorted(found), led_lots(lots, lead))
                self.assertEqual([len(lot) for lot in found], [len(lot) for lot in lots])
                self.assertEqual(sorted(least_added(other, moved, losses=losses)),
                                 led_lots(least_added(job, region, losses=losses), lead))

    def test_six_cells_and_three_plates(self):
        job = Job(8, 8, [Plate([], False, (2, 2)) for _ in range(3)])
        lots = listed_lots(job, [(2, 2), (5, 2), (2, 5), (5, 5), (3, 3), (4, 4)])
        self.assertEqual(lots, sorted(lots, key=lambda lot: (len(lot), lot)))
        self.assertEqual(len(set(lots)), len(lots))
        self.assertGreater(len(lots), 3)

    def test_it_yields(self):
        self.assertTrue(inspect.isgeneratorfunction(all_added))

    def test_errors(self):
        calls = [lambda *args, **more: list(all_added(*args, **more)), least_added,
                 lambda job, region, **more: added_fault(job, region, None, **more)]
        for call in calls:
            refuses(self, call, [SIX, []], 1, BadRegion, BAD_REGIONS)
            for losses in (0, 9, None):
                for region, attributes in BAD_FEW_REGIONS:
                    raises(self, TooMany, attributes, call, SIX, region, losses=losses)
                raises(self, BadRegion, {"index": 1}, call, SIX, [(0, 0), None, *REGION * 3], losses=losses)
            for thing, attributes in BAD_LOSSES:
                raises(self, BadLosses, attributes, call, SIX, REGION, losses=thing)
            call(SIX, [(x, 0) for x in range(6)] * 8, losses=0)


class TestAddedFault(unittest.TestCase):
    def test_words(self):
        for lot in LOTS:
            self.assertIsNone(leaves_alone(self, added_fault, SIX, REGION, lot))
            self.assertIsNone(added_fault(SIX, REGION, [[plate, list(cell)] for plate, cell in lot], losses=0))
        for thing in (None, 7, [(0, (0, 0))], [(0, (4, 0)), (0, (3, 0))], [(0, (3, 0)), (0, (3, 0))],
                      *[[thing] for thing in BAD_INKS]):
            self.assertEqual(added_fault(SIX, REGION, thing), "lot")
        for lot in ((), ((0, (3, 0)),), ((0, (4, 0)), (1, (1, 0)), (1, (0, 0)))[:2]):
            self.assertEqual(added_fault(SIX, REGION, lot), "bare")
        self.assertEqual(added_fault(SIX, REGION, ((0, (3, 0)), (0, (4, 0)), (1, (0, 0)))), "needless")
        job = Job(3, 1, [Plate([(1, 0), (2, 0)], False, (1, 0)), Plate([], False, (1, 0))])
        self.assertEqual(added_fault(job, [(1, 0)], ((1, (0, 0)), (1, (1, 0)), (1, (2, 0)))), "more")
        self.assertEqual(added_fault(job, [(1, 0)], ((0, (0, 0)),), losses=1), "bare")
        self.assertIsNone(added_fault(
            job, [(1, 0)], ((0, (0, 0)), (1, (0, 0)), (1, (1, 0)), (1, (2, 0))), losses=1))
        self.assertIsNone(added_fault(SIX, (), (), losses=2))
        self.assertEqual(added_fault(SIX, (), ((0, (3, 0)),), losses=2), "needless")
        self.assertEqual(added_fault(EXAMPLE, [(0, 0)], ()), "bare")


if __name__ == "__main__":
    unittest.main()
