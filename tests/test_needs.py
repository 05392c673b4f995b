import unittest

from neverbare.errors import BadCell, BadChoice, BadLot, BadRegion, NoPlate
from neverbare.jobs import Job
from neverbare.needs import check_lot, helping_ink, ink_for, ink_of, lacking_cells, with_lot, without_lot
from neverbare.plates import Plate
from neverbare.regions import Deep, bare_cells, check_region, never_bare
from tests.helping import (
    BAD_PLATES, BAD_REGIONS, EXAMPLE, ODD_THINGS, REGION, SIX, Draws, all_tuples, cells_about, drawn_jobs, drawn_region,
    leaves_alone, raises, refuses,
)

BAD_INKS = ((), (0,), (0, (0, 0), 0), (2, (0, 0)), (-1, (0, 0)), (True, (0, 0)), (0, (7, 0)), (0, (0, 1)),
            (0, (-1, 0)), (0, (0, -1)),
            (0, (0, False)), (0, 0), (0, (0,)), {0: 1, 1: 2}, *ODD_THINGS)


def plain_lacking(job, plate, cell):
    told = job.plates[plate]
    need = [(cell[0] + u, cell[1] + v) for u in range(-told.bound[0], told.bound[0] + 1)
            for v in range(-told.bound[1], told.bound[1] + 1)]
    if any(not (0 <= x < job.width and 0 <= y < job.height) for x, y in need):
        return None
    return tuple(sorted(one for one in need if one not in told.cells))


class TestLots(unittest.TestCase):
    def test_check_lot(self):
        found = leaves_alone(self, check_lot, EXAMPLE, [[0, [1, 0]], (0, (2, 0)), [1, (0, 0)]])
        self.assertEqual(found, ((0, (1, 0)), (0, (2, 0)), (1, (0, 0))))
        all_tuples(self, found)
        self.assertEqual(check_lot(EXAMPLE, ()), ())
        full = Job(8, 8, [Plate([])] * 3)
        lot = [(plate, cell) for plate in range(3) for cell in full.field]
        self.assertEqual(check_lot(full, lot), tuple(lot))
        self.assertEqual(ink_of(with_lot(full, lot)), tuple(lot))
        raises(self, BadLot, {"index": 0, "what": "many"}, check_lot, full, lot + [None])

    def test_errors(self):
        for call in (check_lot, with_lot, without_lot):
            for thing in ([(0, (0, 0))] * 193, {(0, (0, 0)): 1}, *ODD_THINGS):
                raises(self, BadLot, {"index": 0, "what": "many"}, call, EXAMPLE, thing)
            first = (0, (3, 0)) if call == without_lot else (0, (1, 0))
            for thing in BAD_INKS:
                raises(self, BadLot, {"index": 1, "what": "ink"}, call, EXAMPLE, [first, thing, None])
                raises(self, BadLot, {"index": 0, "what": "ink"}, call, EXAMPLE, [thing, None])
            for thing in (first, (0, [0, 0]), list(first)):
                raises(self, BadLot, {"index": 1, "what": "order"}, call, EXAMPLE, [first, thing, None])
            raises(self, BadLot, {"index": 1, "what": "order"}, call, EXAMPLE, [(1, (0, 0)) if call != without_lot else
                                                                               (1, (2, 0)), (0, (4, 0)), None])
        raises(self, BadLot, {"index": 2, "what": "order"}, check_lot, EXAMPLE, [(0, (0, 0)), (1, (0, 0)), (0, (1, 0))])
        raises(self, BadLot, {"index": 1, "what": "inked"}, with_lot, EXAMPLE, [(0, (1, 0)), (0, (2, 0)), None])
        raises(self, BadLot, {"index": 1, "what": "order"}, with_lot, EXAMPLE, [(0, (5, 0)), (0, (2, 0)), None])
        raises(self, BadLot, {"index": 1, "what": "lacking"}, without_lot, EXAMPLE, [(0, (2, 0)), (0, (5, 0)), None])
        raises(self, BadLot, {"index": 0, "what": "lacking"}, without_lot, EXAMPLE, [(1, (1, 0)), (0, (5, 0)), None])

    def test_with_and_without(self):
        lot = [(0, [1, 0]), (1, (0, 0)), (1, (1, 0))]
        more = leaves_alone(self, with_lot, EXAMPLE, lot)
        self.assertEqual(more, EXAMPLE.with_ink(0, (1, 0)).with_ink(1, (0, 0)).with_ink(1, (1, 0)))
        self.assertEqual(leaves_alone(self, without_lot, more, lot), EXAMPLE)
        self.assertEqual(with_lot(EXAMPLE, ()), EXAMPLE)
        self.assertEqual(without_lot(EXAMPLE, ()), EXAMPLE)
        bare = without_lot(EXAMPLE, ink_of(EXAMPLE))
        self.assertEqual(ink_of(bare), ())
        self.assertEqual(with_lot(bare, ink_of(EXAMPLE)), EXAMPLE)
        self.assertEqual(bare.plates[1].bound, (1, 0))
        self.assertTrue(bare.plates[1].hiding)

    def test_ink_of(self):
        found = leaves_alone(self, ink_of, EXAMPLE)
        self.assertEqual(found, tuple([(0, (x, 0)) for x in (2, 3, 4)] + [(1, (x, 0)) for x in (2, 3, 4, 5, 6)]))
        all_tuples(self, found)
        for job in drawn_jobs(601, 30):
            self.assertEqual(check_lot(job, ink_of(job)), ink_of(job))


class TestLackingCells(unittest.TestCase):
    def test_told_values(self):
        self.assertEqual(leaves_alone(self, lacking_cells, EXAMPLE, 0, [4, 0]), ((5, 0),))
        self.assertEqual(lacking_cells(EXAMPLE, 0, (3, 0)), ())
        self.assertEqual(lacking_cells(EXAMPLE, 1, (1, 0)), ((0, 0), (1, 0)))
        for cell in ((0, 0), (6, 0), (3, 1), (-1, 0), (20, -20)):
            self.assertIsNone(lacking_cells(EXAMPLE, 0, cell))
        all_tuples(self, lacking_cells(EXAMPLE, 1, [1, 0]))

    def test_deep_exactly_if_nothing_is_lacking(self):
        for job in drawn_jobs(602, 60, bounds=((0, 0), (1, 0), (0, 1), (2, 1))):
            for plate in range(len(job)):
                for cell in cells_about(job):
                    found = lacking_cells(job, plate, cell)
                    self.assertEqual(found, plain_lacking(job, plate, cell))
                    self.assertEqual(found == (), cell in job.plates[plate].deep)
                    if found:
                        self.assertIn(cell, with_lot(job, [(plate, one) for one in found]).plates[plate].deep)

    def test_errors(self):
        refuses(self, lacking_cells, [EXAMPLE, 0, (0, 0)], 1, NoPlate, BAD_PLATES)
        for thing in ((21, 0), (0, -21), (0,), (0, True), *ODD_THINGS):
            raises(self, BadCell, {"cell": thing}, lacking_cells, EXAMPLE, 0, thing)


class TestInkFor(unittest.TestCase):
    def test_told_values(self):
        found = leaves_alone(self, ink_for, SIX, [[3, 0], (2, 0), (3, 0)], [0, 0])
        self.assertEqual(found, ((0, (3, 0)), (0, (4, 0))))
        all_tuples(self, found)
        self.assertEqual(ink_for(SIX, [(2, 0), (3, 0)], (0, 1)), ((0, (3, 0)), (1, (2, 0))))
        self.assertEqual(ink_for(SIX, [(2, 0), (3, 0)], (1, 1)), ((1, (1, 0)), (1, (2, 0))))
        self.assertEqual(ink_for(SIX, (), ()), ())
        self.assertIsNone(ink_for(SIX, [(0, 0), (1, 0)], (0, 0)))
        self.assertIsNone(ink_for(SIX, [(1, 0), (9, 9)], (0, 0)))

    def test_a_choice_makes_the_region_never_bare(self):
        draws = Draws(603)
        for job in drawn_jobs(604, 80):
            region = check_region(drawn_region(draws, job, 4))
            choice = [draws.below(len(job)) for _ in region]
            found = ink_for(job, region, choice)
            lacking = [plain_lacking(job, plate, cell) for plate, cell in zip(choice, region)]
            if None in lacking:
                self.assertIsNone(found)
            else:
                self.assertEqual(found, tuple(sorted({
                    (plate, one) for plate, cells in zip(choice, lacking) for one in cells})))
                self.assertIsInstance(never_bare(with_lot(job, found), region), Deep)

    def test_errors(self):
        refuses(self, ink_for, [SIX, [(0, 0)], (0,)], 1, BadRegion, BAD_REGIONS)
        for choice in ((), (0,), (0, 0, 0), (0, 2), (-1, 0), (True, 0), [0, None], {0: 1, 1: 2}, *ODD_THINGS):
            raises(self, BadChoice, {}, ink_for, SIX, [(9, 9), (2, 0), (2, 0)], choice)


class TestHelpingInk(unittest.TestCase):
    def test_told_values(self):
        found = leaves_alone(self, helping_ink, SIX, [list(cell) for cell in REGION])
        self.assertEqual(found, ((0, (3, 0)), (0, (4, 0)), (1, (1, 0)), (1, (2, 0))))
        all_tuples(self, found)
        self.assertEqual(helping_ink(SIX, [(1, 0)]), ())
        self.assertEqual(helping_ink(SIX, [(0, 0), (9, 9)]), ())
        self.assertEqual(helping_ink(SIX, ()), ())

    def test_as_told(self):
        draws = Draws(605)
        for job in drawn_jobs(606, 80):
            region = drawn_region(draws, job, 5)
            lots = [plain_lacking(job, plate, cell) for cell in bare_cells(job, region) for plate in range(len(job))]
            numbers = [plate for _ in bare_cells(job, region) for plate in range(len(job))]
            self.assertEqual(helping_ink(job, region), tuple(sorted({
                (plate, one) for plate, cells in zip(numbers, lots) if cells is not None for one in cells})))

    def test_errors(self):
        refuses(self, helping_ink, [SIX, []], 1, BadRegion, BAD_REGIONS)


if __name__ == "__main__":
    unittest.main()
