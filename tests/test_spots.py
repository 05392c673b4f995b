import unittest
from fractions import Fraction

from neverbare.errors import BadPlace, BadSlipRow, BadSlips, BadSpan, BadSpot, BadStand, OnLine
from neverbare.jobs import Job
from neverbare.plates import Plate
from neverbare.ratios import plus
from neverbare.sheets import table_of
from neverbare.spots import (
    cells_under, check_stands, middle_of, picture_of, slips_for_spots, spot_at, stands_of, table_at, whole_stretch,
)
from neverbare.stands import all_stands, corners_of, row_from, row_of, shares_of, stand_of
from tests.helping import (
    BAD_RATIOS, BAD_SLIPS, EXAMPLE, ODD_THINGS, Draws, all_tuples, as_ratio, drawn_jobs, drawn_place, drawn_ratio,
    drawn_slips, leaves_alone, middle, number, on_no_line, plain_showing, raises, refuses,
)
from tests.test_stands import drawn_rows

ZERO = (0, 1)
BAD_ROWS = ([((), {"index": 0, "what": "many"}), ([ZERO] * 4, {"index": 0, "what": "many"})]
            + [([ZERO, thing], {"index": 1, "what": "ratio"}) for thing in BAD_RATIOS]
            + [([(5, 2), None], {"index": 0, "what": "far"})])
STAND_FAULTS = ((), 7, [(0, 0)] * 4, [(0,)], [(True, 0)], [(0, -1)], [(0, False)], [(-3, 0)], [(2, 1)], [(0, 2)])


def bad_spots(last):
    return [(thing, {}) for thing in ((), (0,), (0, 0, 0), (0, -1), (0, last + 1), (True, 0), (0, False), (ZERO, 0),
                                      {0: 0, 1: 1}, *ODD_THINGS)]


class TestSpotAt(unittest.TestCase):
    def test_told_values(self):
        row = [(1, 2), (-3, 4), (1, 1)]  # broken parts 1/4 and 1/2
        self.assertEqual(leaves_alone(self, spot_at, row, (17, 8)), (2, 0))
        self.assertEqual(spot_at(row, (19, 8)), (2, 1))
        self.assertEqual(spot_at(row, (-1, 8)), (-1, 2))
        self.assertEqual(spot_at(((1, 2),), (3, 1)), (3, 0))  # whole, on no line: the spot on its right
        self.assertEqual(spot_at(((1, 2), (1, 3)), (-4, 1)), (-4, 0))
        all_tuples(self, spot_at(row, (17, 8)))

    def test_errors(self):
        refuses(self, spot_at, [[ZERO], ZERO], 0, BadSlipRow, BAD_ROWS)
        refuses(self, spot_at, [[ZERO], ZERO], 1, BadPlace, [(thing, {}) for thing in BAD_RATIOS])
        raises(self, OnLine, {"plate": 1}, spot_at, [(1, 2), (1, 3), (-2, 3)], (-5, 3))
        raises(self, OnLine, {"plate": 0}, spot_at, [(1, 1), (0, 1)], (30, 1))
        raises(self, OnLine, {"plate": 2}, spot_at, [(1, 2), (1, 3), (-2, 1)], (0, 1))

    def test_spots_and_shares(self):
        draws = Draws(401)
        for row in drawn_rows(402, 120):
            start = Fraction(draws.below(9) - 4)
            for piece, share in enumerate(shares_of(row)):
                spot = (int(start.__floor__()), piece)
                inner = middle_of(row, spot)
                self.assertEqual(number(inner), start + number(share) / 2)
                for part in (1, 9):
                    place = as_ratio(start + number(share) * part / 10)
                    self.assertEqual(spot_at(row, place), spot)
                start += number(share)
            self.assertEqual(start.denominator, 1)


class TestMiddleOf(unittest.TestCase):
    def test_told_values(self):
        row = [(1, 2), (-3, 4), (1, 1)]
        self.assertEqual(leaves_alone(self, middle_of, row, [2, 0]), (17, 8))
        self.assertEqual(middle_of(row, (2, 1)), (19, 8))
        self.assertEqual(middle_of(row, (-30, 2)), (-117, 4))
        self.assertEqual(middle_of([(2, 1)], (0, 0)), (1, 2))

    def test_errors(self):
        refuses(self, middle_of, [[ZERO], (0, 0)], 0, BadSlipRow, BAD_ROWS)
        refuses(self, middle_of, [[ZERO, (1, 1)], (0, 0)], 1, BadSpot, bad_spots(0))
        refuses(self, middle_of, [[ZERO, (1, 3), (2, 3)], (0, 0)], 1, BadSpot, bad_spots(2))


class TestCellsUnder(unittest.TestCase):
    def test_told_values(self):
        self.assertEqual(leaves_alone(self, cells_under, [[0, 1], [-1, 2], [1, 0]], [5, 0]), (4, 5, 4))
        self.assertEqual(cells_under(((0, 1), (-1, 2), (1, 0)), (5, 1)), (5, 5, 4))
        self.assertEqual(cells_under(((0, 1), (-1, 2), (1, 0)), (5, 2)), (5, 6, 4))
        all_tuples(self, cells_under(((0, 0),), (0, 0)))

    def test_as_the_cells_lie(self):
        for row in drawn_rows(403, 60):
            for piece in range(len(shares_of(row))):
                place = number(middle_of(row, (3, piece)))
                self.assertEqual(cells_under(stand_of(row), (3, piece)),
                                 tuple([(place - number(ratio)).__floor__() for ratio in row]))

    def test_errors(self):
        for thing in STAND_FAULTS:
            with self.assertRaises(BadStand):
                cells_under(thing, None)
        raises(self, BadStand, {"index": 1, "what": "rank"}, cells_under, [(0, 0), (0, None)], None)
        refuses(self, cells_under, [[(0, 0)], (0, 0)], 1, BadSpot, bad_spots(0))
        refuses(self, cells_under, [[(0, 1), (1, 2)], (0, 0)], 1, BadSpot, bad_spots(2))


class TestSlipsForSpots(unittest.TestCase):
    def test_told_values(self):
        slips = [[(1, 2), ZERO], [(-1, 3), ZERO]]  # broken parts 1/2 and 2/3
        self.assertEqual(leaves_alone(self, slips_for_spots, EXAMPLE, slips, [4, 0], (-9, 0)),
                         (((1, 1), ZERO), (ZERO, ZERO)))
        self.assertEqual(slips_for_spots(EXAMPLE, slips, (4, 1), (0, 0)), ((ZERO, ZERO), (ZERO, ZERO)))
        self.assertEqual(slips_for_spots(EXAMPLE, slips, (4, 2), (0, 0)), ((ZERO, ZERO), ((-1, 1), ZERO)))
        all_tuples(self, slips_for_spots(EXAMPLE, slips, (4, 2), (0, 0)))

    def test_each_place_shows_what_the_cell_shows(self):
        draws = Draws(404)
        for job in drawn_jobs(405, 40):
            for _ in range(4):
                slips = drawn_slips(draws, job)
                place = drawn_place(draws, job)
                if on_no_line(job, slips, place):
                    spots = [spot_at(row_of(slips, axis), place[axis]) for axis in (0, 1)]
                    whole = slips_for_spots(job, slips, spots[0], spots[1])
                    self.assertEqual(plain_showing(job, slips, place),
                                     plain_showing(job, whole, middle((spots[0][0], spots[1][0]))))

    def test_errors(self):
        good = [EXAMPLE, (((1, 2), ZERO), (ZERO, ZERO)), (0, 0), (0, 0)]
        refuses(self, slips_for_spots, good, 1, BadSlips, BAD_SLIPS)
        refuses(self, slips_for_spots, good, 2, BadSpot, bad_spots(1))
        refuses(self, slips_for_spots, good, 3, BadSpot, bad_spots(0))


class TestStandsOf(unittest.TestCase):
    def test_told_values(self):
        job = Job(1, 1, [Plate([], False, (2, 1)), Plate([], False, (0, 2))])
        found = leaves_alone(self, stands_of, job, [[(-3, 2), (1, 3)], [ZERO, (-1, 3)]])
        self.assertEqual(found, (((-2, 1), (0, 0)), ((0, 1), (-1, 2))))
        all_tuples(self, found)

    def test_errors(self):
        refuses(self, stands_of, [EXAMPLE, None], 1, BadSlips, BAD_SLIPS)


class TestCheckStands(unittest.TestCase):
    GOOD = (((0, 1), (-1, 2)), ((0, 0), (0, 0)))

    def test_stands(self):
        told = [[list(couple) for couple in stand] for stand in self.GOOD]
        found = leaves_alone(self, check_stands, EXAMPLE, told)
        self.assertEqual(found, self.GOOD)
        all_tuples(self, found)
        for job in drawn_jobs(406, 10, bounds=((0, 0), (1, 0), (0, 1), (2, 1))):
            bounds = [[plate.bound[axis] for plate in job] for axis in (0, 1)]
            for stand in list(all_stands(bounds[0]))[::7]:
                least = next(all_stands(bounds[1]))
                self.assertEqual(check_stands(job, (stand, least)), (stand, least))

    def wrong(self, index, what, thing, job=EXAMPLE):
        for call in (check_stands, lambda job, thing: picture_of(job, thing, None, None), table_at):
            raises(self, BadStand, {"index": index, "what": what}, call, job, thing)

    def test_errors(self):
        still = ((0, 0), (0, 0))
        for thing in ((), (still,), (still,) * 3, {0: still, 1: still}, *ODD_THINGS):
            self.wrong(0, "many", thing)
        for index, what, stand in (
            (0, "many", []), (0, "many", [(0, 0)] * 4), (0, "many", 7), (1, "plate", [(0, 0), (0,)]),
            (0, "floor", [(True, 0), None]), (1, "rank", [(0, 0), (0, -1)]), (0, "far", [(-3, 0), None]),
            (1, "gap", [(0, 0), (0, 2)]), (0, "many", [(0, 0)]), (0, "many", [(0, 0)] * 3),
            (0, "many", [(2, 0)]), (1, "gap", [(2, 0), (0, 2), (0, 0)]),
        ):
            self.wrong(index, what, (stand, None))
            self.wrong(index, what, (still, stand))
        for index, stand in (
            (0, [(1, 1), (0, 0)]), (0, [(-2, 1), (2, 0)]), (0, [(2, 0), (0, 0)]), (0, [(-2, 0), (0, 0)]),
            (1, [(1, 0), (1, 1)]), (1, [(-1, 0), (2, 0)]), (1, [(0, 0), (-2, 1)]),
        ):
            self.wrong(index, "bound", (stand, None))
        for stand in ([(0, 0), (0, 1)], [(0, 0), (-1, 1)], [(0, 0), (1, 0)]):
            self.wrong(1, "bound", (still, stand))
        check_stands(EXAMPLE, ([(1, 0), (-1, 0)], still))
        check_stands(EXAMPLE, ([(0, 1), (-1, 1)], still))


class TestPictureOf(unittest.TestCase):
    def test_told_values(self):
        job = Job(2, 1, [Plate([(0, 0)], False, (1, 0)), Plate([], False, (1, 1))])
        stands = (((0, 1), (0, 2)), ((0, 0), (0, 1)))
        found = leaves_alone(self, picture_of, job, stands, [0, 2], (-1, 1))
        self.assertEqual(found, (((),) * 6, ((),) * 6, ((), (0,), (0,), (0,), (), ()), ((), (0,), (0,), (0,), (), ())))
        all_tuples(self, found)

    def test_all_sheets_with_these_stands(self):
        draws = Draws(407)
        for job in drawn_jobs(408, 25):
            slips = drawn_slips(draws, job)
            stands = stands_of(job, slips)
            low, high = draws.below(3) - 2, draws.below(3) + 2
            found = picture_of(job, stands, (low, high), (-1, 2))
            pieces = [len(corners_of(stand)) for stand in stands]
            self.assertEqual(len(found), 3 * pieces[1])
            for j, row in enumerate(found):
                self.assertEqual(len(row), (high - low) * pieces[0])
                for i, showing in enumerate(row):
                    spot_x = (low + i // pieces[0], i % pieces[0])
                    spot_y = (-1 + j // pieces[1], j % pieces[1])
                    place = (middle_of(row_of(slips, 0), spot_x), middle_of(row_of(slips, 1), spot_y))
                    self.assertEqual(showing, plain_showing(job, slips, place))

    def test_errors(self):
        still = ((0, 0), (0, 0))
        good = [EXAMPLE, (still, still), (0, 1), (0, 1)]
        wrong = ((), (0,), (0, 0), (1, 0), (0, 1, 2), (-21, 0), (0, 21), (False, 3), [0, True], (ZERO, (1, 1)),
                 {0: 1, 1: 2}, *ODD_THINGS)
        refuses(self, picture_of, good, 2, BadSpan, [(thing, {"axis": 0}) for thing in wrong])
        refuses(self, picture_of, good, 3, BadSpan, [(thing, {"axis": 1}) for thing in wrong])
        self.assertEqual(len(picture_of(EXAMPLE, (still, still), (-20, 20), (19, 20))[0]), 40)


class TestTableAt(unittest.TestCase):
    def test_all_slips_with_these_stands(self):
        draws = Draws(409)
        for job in drawn_jobs(410, 60):
            slips = drawn_slips(draws, job)
            stands = stands_of(job, slips)
            found = table_at(job, [list(stand) for stand in stands])
            self.assertEqual(found, table_of(job, slips))
            all_tuples(self, found)
            rows = [row_from(stand) for stand in stands]
            self.assertEqual(found, table_of(job, list(zip(rows[0], rows[1]))))


class TestWholeStretch(unittest.TestCase):
    def test_it_is_as_long_and_lies_under_the_stretch(self):
        draws = Draws(411)
        for row in drawn_rows(412, 150):
            low = drawn_ratio(draws, 3)
            high = plus(low, as_ratio(Fraction(draws.below(30) + 1, draws.one_of((2, 3, 7)))))
            corner, (start, end) = whole_stretch(row, low, high)
            self.assertGreaterEqual(end - start, number(high) - number(low))
            piece = corners_of(stand_of(row)).index(corner)
            under = {spot_at(row, as_ratio(number(low) + (number(high) - number(low)) * Fraction(k, 997)))
                     for k in range(1, 997)}
            self.assertEqual({(cell, piece) for cell in range(start, end)}, {spot for spot in under if spot[1] == piece})


if __name__ == "__main__":
    unittest.main()
