import unittest

from neverbare.errors import BadGroup, BadPlace, BadSlips, OnLine
from neverbare.jobs import Job
from neverbare.pieces import piece_at
from neverbare.plates import Plate
from neverbare.regions import bare_cells, check_region
from neverbare.runs import runs_at
from neverbare.sheets import rectangle_at, sheet_of
from neverbare.ways import between_fault, way_between
from tests.helping import (
    BAD_GROUPS, BAD_PLACES, BAD_SLIPS, EXAMPLE, ODD_THINGS, STILL, ZERO, Draws, all_tuples, as_ratio, drawn_jobs,
    drawn_place, drawn_slips, leaves_alone, middle, number, on_no_line, plain_lines, raises, refuses,
)
from tests.test_pieces import RING, all_groups

HALF = ((1, 2), ZERO)
SLIPS = (STILL, STILL)


def at(x, y):
    return (2 * x + 1, 2), (2 * y + 1, 2)


class TestWayBetween(unittest.TestCase):
    def test_told_values(self):
        found = leaves_alone(self, way_between, RING, [STILL, STILL], [0], [*at(0, 0)], [*at(2, 1)])
        self.assertIsNone(between_fault(RING, SLIPS, (0,), at(0, 0), at(2, 1), found))
        self.assertEqual(found, ((0, 0), (1, 0), (2, 0), (2, 1)))
        all_tuples(self, found)
        self.assertEqual(way_between(RING, SLIPS, (0,), at(0, 0), ((1, 3), (1, 3))), ((0, 0),))
        self.assertIsNone(way_between(RING, SLIPS, (0,), at(0, 0), at(1, 1)))
        self.assertIsNone(way_between(RING, SLIPS, (0,), at(1, 1), at(0, 0)))
        self.assertIsNone(way_between(RING, SLIPS, (0,), at(1, 1), at(1, 1)))
        self.assertIsNone(way_between(RING, SLIPS, (0,), at(5, 5), at(0, 0)))
        self.assertIsNone(way_between(RING, SLIPS, (0,), at(0, 0), at(5, 5)))
        self.assertIsNone(way_between(RING, SLIPS, (0,), at(5, 5), at(5, 5)))
        self.assertEqual(way_between(RING, SLIPS, (1,), at(1, 1), at(1, 1)), ((1, 1),))
        parted = Job(3, 1, [Plate([(0, 0), (2, 0)], False, (1, 0))])
        self.assertIsNone(way_between(parted, [STILL], (0,), at(0, 0), at(2, 0)))

    def test_exactly_in_one_piece(self):
        draws = Draws(561)
        for job in drawn_jobs(562, 100):
            slips = drawn_slips(draws, job)
            places = [place for place in [drawn_place(draws, job) for _ in range(4)] if on_no_line(job, slips, place)]
            for group in all_groups(job):
                for place in places:
                    for other in places:
                        way = way_between(job, slips, group, place, other)
                        pieces = [piece_at(job, slips, group, one) for one in (place, other)]
                        self.assertEqual(way is None, None in pieces or pieces[0] != pieces[1])
                        if way is not None:
                            all_tuples(self, way)
                            self.assertIsNone(between_fault(job, slips, group, place, other, way))
                            if rectangle_at(sheet_of(job, slips), place) == rectangle_at(sheet_of(job, slips), other):
                                self.assertEqual(len(way), 1)

    def test_runs_lie_in_one_piece(self):
        draws = Draws(563)
        for job in drawn_jobs(564, 50):
            slips = drawn_slips(draws, job)
            plate = draws.below(len(job))
            for across in plain_lines(slips, 0, (0, job.height)):
                for low, high in runs_at(job, slips, 0, across, (0, job.width), ("shows", plate)):
                    ends = [(as_ratio(number(low) + (number(high) - number(low)) * part / 1009), across)
                            for part in (1, 1008)]
                    if all(on_no_line(job, slips, place) for place in ends):
                        self.assertIsNotNone(way_between(job, slips, (plate,), ends[0], ends[1]))

    def test_never_bare_regions_lie_in_one_piece(self):
        draws = Draws(565)
        met = 0
        for job in drawn_jobs(566, 150, bounds=((1, 0), (0, 0), (0, 1))):
            deep = [cell for cell in job.field if not bare_cells(job, [cell])]
            slips = drawn_slips(draws, job)
            group = tuple(range(len(job)))
            for x, y in check_region(deep):
                for near in ((x + 1, y), (x, y + 1)):
                    places = [middle((x, y)), middle(near)]
                    if near in deep and all(on_no_line(job, slips, place) for place in places):
                        self.assertIsNotNone(way_between(job, slips, group, places[0], places[1]))
                        met += 1
        self.assertGreater(met, 20)

    def test_errors(self):
        for call, more in ((way_between, ()), (between_fault, (None,))):
            good = [EXAMPLE, (HALF, STILL), (0,), ((1, 4), (1, 2)), ((1, 4), (1, 2)), *more]
            refuses(self, call, good, 1, BadSlips, BAD_SLIPS)
            refuses(self, call, good, 2, BadGroup, BAD_GROUPS)
            refuses(self, call, good, 3, BadPlace, BAD_PLACES)
            refuses(self, call, [*good[:3], (ZERO, ZERO), *good[4:]], 4, BadPlace, BAD_PLACES)
            for place, other, plate in ((((1, 1), (1, 2)), ((1, 2), (1, 2)), 1), (((1, 2), (1, 2)), ((1, 1), (1, 2)), 0),
                                        (((1, 4), (1, 2)), ((1, 1), (1, 2)), 1), (((1, 4), (1, 2)), ((9, 4), ZERO), 0)):
                raises(self, OnLine, {"plate": plate}, call, EXAMPLE, (HALF, STILL), (0,), place, other, *more)
            empty = Job(2, 1, [Plate([(0, 0)], False, (1, 0)), Plate([], False, (1, 0))])
            raises(self, OnLine, {"plate": 1}, call, empty, (STILL, HALF), (0,), ((1, 2), (1, 2)), ((1, 2), (1, 2)), *more)


class TestBetweenFault(unittest.TestCase):
    def fault(self, way, place=at(0, 0), other=at(2, 1)):
        return between_fault(RING, SLIPS, [0], place, other, way)

    def test_right(self):
        self.assertIsNone(self.fault([[0, 0], [1, 0], [2, 0], [2, 1]]))
        self.assertIsNone(self.fault(((0, 0), (0, 1), (0, 0), (1, 0), (2, 0), (2, 1))))
        self.assertIsNone(self.fault(((0, 0),), at(0, 0), ((1, 3), (1, 3))))
        self.assertIsNone(self.fault(((0, 0), (1, 0), (0, 0)), at(0, 0), ((1, 3), (1, 3))))

    def test_wrong(self):
        for way in ((), [], {(0, 0): 1}, {(0, 0)}, *ODD_THINGS):
            self.assertEqual(self.fault(way), "way")
        for thing in ((3, 0), (0, 3), (-1, 0), (0, -1), (1, False), (True, 0), (0,), (0, 0, 0), {0: 0, 1: 1}, *ODD_THINGS):
            self.assertEqual(self.fault(((0, 0), thing)), "rectangle")
            self.assertEqual(self.fault([thing]), "rectangle")
            self.assertEqual(self.fault(((0, 0), thing, (1, 1))), "rectangle")
        self.assertEqual(self.fault(((1, 1), None)), "counts")
        self.assertEqual(self.fault(((0, 0), (1, 0), (1, 1), None)), "counts")
        for thing in ((0, 0), (1, 2), (2, 0), (2, 1)):
            self.assertEqual(self.fault(((0, 0), thing, None)), "step")
        self.assertEqual(self.fault(((1, 0), (2, 0), (2, 1))), "ends")
        self.assertEqual(self.fault(((0, 0), (1, 0), (2, 0))), "ends")
        self.assertEqual(self.fault(((0, 0),), at(0, 0), at(5, 5)), "ends")
        self.assertEqual(self.fault(((0, 0),), at(5, 5), at(0, 0)), "ends")
        self.assertEqual(self.fault(((0, 0),), at(5, 5), at(5, 5)), "ends")
        none = Job(1, 1, [Plate([])])
        self.assertEqual(between_fault(none, [STILL], (0,), at(0, 0), at(0, 0), ((0, 0),)), "rectangle")


if __name__ == "__main__":
    unittest.main()
