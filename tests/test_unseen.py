import unittest

from neverbare.errors import BadCell, NoInk, NoPlate
from neverbare.jobs import Job
from neverbare.plates import Plate
from neverbare.slips import check_slips
from neverbare.unseen import Seen, cover_fault, cover_of, seen_at, seen_fault, unseen_inks
from tests.helping import (
    BAD_PLACES, BAD_PLATES, BAD_SLIPS, EXAMPLE, ODD_THINGS, STILL, ZERO, Draws, all_tuples, drawn_jobs, drawn_place,
    drawn_slips, leaves_alone, on_no_line, raises, refuses, whole_showing, whole_slips,
)

LEFT, RIGHT = ((-1, 1), ZERO), ((1, 1), ZERO)
INK = (0, (3, 0))
# Nine cells of plate 0 under two hiding plates that cover it together, but neither of them alone.
SHARED = Job(8, 1, [
    Plate([(3, 0)], False, (1, 0)),
    Plate([(0, 0), (1, 0), (2, 0), (3, 0)], True, (1, 0)),
    Plate([(3, 0), (4, 0), (1, 0), (2, 0)], True, (0, 0)),
])


def plain_seen(job):
    """The inks that are seen, by all whole slips."""
    found = set()
    for slips in whole_slips(job):
        for number, plate in enumerate(job.plates):
            for cell in plate.cells:
                over = (cell[0] + slips[number][0][0], cell[1] + slips[number][1][0])
                if number in whole_showing(job, slips, over):
                    found.add((number, cell))
    return found


class TestUnseenInks(unittest.TestCase):
    def test_example(self):
        self.assertEqual(unseen_inks(EXAMPLE), ((0, (4, 0)),))
        all_tuples(self, unseen_inks(EXAMPLE))

    def test_two_plates_hide_together(self):
        self.assertEqual(unseen_inks(SHARED), ((0, (3, 0)), (1, (2, 0)), (1, (3, 0))))
        self.assertEqual(cover_of(SHARED, 0, (3, 0)), (((2, 0), 1), ((3, 0), 2), ((4, 0), 2)))

    def test_all_whole_slips(self):
        draws = Draws(451)
        for job in drawn_jobs(452, 250):
            seen = plain_seen(job)
            all_ink = [(number, cell) for number, plate in enumerate(job.plates) for cell in plate.cells]
            unseen = [ink for ink in all_ink if ink not in seen]
            self.assertEqual(unseen_inks(job), tuple(unseen))
            for number, cell in all_ink:
                found = seen_at(job, number, cell)
                cover = cover_of(job, number, list(cell))
                self.assertEqual((number, cell) in seen, found is not None)
                self.assertEqual((number, cell) in seen, cover is None)
                if found is None:
                    self.assertIsNone(cover_fault(job, number, cell, cover))
                    all_tuples(self, cover)
                else:
                    self.assertIsNone(seen_fault(job, number, cell, found))
                    self.assertEqual(check_slips(job, found.slips), found.slips)
                    self.assertTrue(all(ratio[1] == 1 for slip in found.slips for ratio in slip))
                    self.assertEqual([ratio[1] for ratio in found.place], [2, 2])
                    all_tuples(self, (found.slips, found.place))
            slips = drawn_slips(draws, job)  # nor are they seen at slips that are not whole
            place = drawn_place(draws, job)
            if on_no_line(job, slips, place):
                for number, cell in unseen:
                    self.assertNotEqual(seen_fault(job, number, cell, Seen(slips, place)), None)


class TestSeenAt(unittest.TestCase):
    def test_told_values(self):
        found = leaves_alone(self, seen_at, EXAMPLE, 0, [3, 0])
        self.assertIsInstance(found, Seen)
        self.assertEqual(found, Seen((LEFT, RIGHT), ((5, 2), (1, 2))))
        self.assertIsNone(seen_at(EXAMPLE, 0, (4, 0)))
        self.assertIsNotNone(seen_at(EXAMPLE, 1, (4, 0)))

    def test_cover(self):
        found = leaves_alone(self, cover_of, EXAMPLE, 0, [4, 0])
        self.assertEqual(found, (((3, 0), 1), ((4, 0), 1), ((5, 0), 1)))
        self.assertIsNone(cover_of(EXAMPLE, 0, (3, 0)))
        twice = Job(1, 1, [Plate([(0, 0)], False, (0, 0)), Plate([(0, 0)], True, (0, 0)), Plate([(0, 0)], True, (0, 0))])
        self.assertEqual(cover_of(twice, 0, (0, 0)), (((0, 0), 1),))
        self.assertEqual(cover_of(twice, 1, (0, 0)), (((0, 0), 2),))
        self.assertIsNone(cover_of(twice, 2, (0, 0)))

    def test_errors(self):
        calls = [(call, ()) for call in (seen_at, cover_of)] + [(call, (None,)) for call in (seen_fault, cover_fault)]
        for call, more in calls:
            good = [EXAMPLE, 0, (3, 0), *more]
            refuses(self, call, good, 1, NoPlate, BAD_PLATES)
            for thing in ((7, 0), [0, 1], (-1, 0), (0, -1), (21, 0), (0,), (True, 0), ZERO[:1], *ODD_THINGS):
                raises(self, BadCell, {"cell": thing}, call, EXAMPLE, 0, thing, *more)
            raises(self, NoInk, {"plate": 0, "cell": (5, 0)}, call, EXAMPLE, 0, (5, 0), *more)
            raises(self, NoInk, {"plate": 1, "cell": (1, 0)}, call, EXAMPLE, 1, [1, 0], *more)


class TestSeenFault(unittest.TestCase):
    def fault(self, slips, place, ink=INK):
        return seen_fault(EXAMPLE, ink[0], ink[1], Seen(slips, place))

    def test_right(self):
        self.assertIsNone(self.fault((LEFT, RIGHT), ((5, 2), (1, 2))))
        self.assertIsNone(self.fault([((-1, 2), ZERO), ((1, 2), ZERO)], [(9, 4), (3, 4)], (0, (2, 0))))
        self.assertIsNone(self.fault((STILL, ((1, 2), ZERO)), ((9, 4), (1, 3)), (0, (2, 0))))

    def test_wrong(self):
        good = (LEFT, RIGHT)
        for thing, _ in BAD_SLIPS:
            self.assertEqual(self.fault(thing, None), "slips")
        for thing, _ in BAD_PLACES:
            self.assertEqual(self.fault(good, thing), "place")
        for place in (((2, 1), (1, 2)), ((5, 2), ZERO)):
            self.assertEqual(self.fault(good, place), "line")
        self.assertEqual(self.fault((STILL, ((1, 2), ZERO)), ((7, 2), (1, 2))), "line")
        self.assertEqual(self.fault(good, ((7, 2), (1, 2))), "cell")
        self.assertEqual(self.fault(good, ((5, 2), (3, 2))), "cell")
        self.assertEqual(self.fault((LEFT, STILL), ((5, 2), (1, 2))), "hidden")
        self.assertEqual(self.fault((STILL, STILL), ((9, 2), (1, 2)), (0, (4, 0))), "hidden")

    def test_a_line_of_a_plate_without_cells(self):
        job = Job(2, 1, [Plate([(0, 0)], False, (1, 1)), Plate([], False, (1, 1))])
        seen = Seen((((1, 2), ZERO), STILL), ((1, 1), (1, 2)))
        self.assertEqual(seen_fault(job, 0, (0, 0), seen), "line")


class TestCoverFault(unittest.TestCase):
    GOOD = (((3, 0), 1), ((4, 0), 1), ((5, 0), 1))

    def fault(self, rows):
        return cover_fault(EXAMPLE, 0, (4, 0), rows)

    def test_right(self):
        self.assertIsNone(self.fault(self.GOOD))
        self.assertIsNone(self.fault([list(row) for row in self.GOOD]))
        twice = Job(1, 1, [Plate([(0, 0)], False, (0, 0)), Plate([(0, 0)], True, (0, 0)), Plate([(0, 0)], True, (0, 0))])
        self.assertIsNone(cover_fault(twice, 0, (0, 0), (((0, 0), 2),)))

    def test_wrong(self):
        for rows in (None, self.GOOD[:2], self.GOOD + self.GOOD[:1], {0: 1, 1: 2, 2: 3}, (), *ODD_THINGS):
            self.assertEqual(self.fault(rows), "many")
        first = self.GOOD[0]
        for row in ((), ((4, 0),), ((4, 0), 1, 1), {(4, 0): 1, 1: 1}, *ODD_THINGS):
            self.assertEqual(self.fault((first, row, None)), "row")
        for cell in ([4, 0], (3, 0), (4, False), (4, 0, 0), None, 4):
            self.assertEqual(self.fault((first, (cell, 9), None)), "cell")
        for plate in (0, 2, -1, True, None, (1,)):
            self.assertEqual(self.fault((first, ((4, 0), plate), None)), "plate")
        low = Job(7, 1, [*EXAMPLE.plates, Plate([(3, 0), (4, 0), (5, 0)], False, (0, 0))])
        self.assertEqual(cover_fault(low, 0, (4, 0), (first, ((4, 0), 2), None)), "plate")  # clear
        self.assertEqual(cover_fault(EXAMPLE, 0, (3, 0), (((2, 0), 1), None, None)), "deep")
        self.assertEqual(cover_fault(EXAMPLE, 1, (3, 0), (((2, 0), 1), None, None)), "plate")


class TestResult(unittest.TestCase):
    def test_kept_and_equal(self):
        one = Seen([1], [2])
        self.assertEqual(list(vars(one).items()), [("slips", [1]), ("place", [2])])
        self.assertTrue(one == Seen([1], [2]))
        self.assertTrue(one != Seen([9], [2]))
        self.assertFalse(one == Seen([1], [9]))
        self.assertFalse(one == ([1], [2]))


if __name__ == "__main__":
    unittest.main()
