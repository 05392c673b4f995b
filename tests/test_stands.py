import unittest
from fractions import Fraction
from itertools import product

from neverbare.errors import BadAxis, BadBounds, BadCorners, BadSlipRow, BadStand
from neverbare.stands import (
    all_stands, check_bounds, check_slip_row, check_stand, corners_of, count_stands, lies_at_edge,
    row_from, row_of, shares_of, stand_from, stand_of,
)
from tests.helping import ODD_THINGS, Draws, all_tuples, as_ratio, drawn_ratio, leaves_alone, raises

ZERO = (0, 1)
SOME_BOUNDS = [(0,), (1,), (2,), (0, 0), (1, 0), (1, 2), (2, 2), (0, 1, 0), (1, 1, 1), (2, 0, 1)]


def drawn_rows(seed, many, bound=2):
    draws = Draws(seed)
    return [tuple([drawn_ratio(draws, bound) for _ in range(1 + k % 3)]) for k in range(many)]


def plain_stand(row):
    """The stand of a row, reckoned apart from the package."""
    numbers = [Fraction(*ratio) for ratio in row]
    parts = sorted({number - number.__floor__() for number in numbers} | {Fraction(0)})
    return tuple([(number.__floor__(), parts.index(number - number.__floor__())) for number in numbers])


def grid_rows(bounds, bottom):
    """All rows within the bounds whose ratios have this bottom, before they are in lowest terms."""
    axes = [[Fraction(top, bottom) for top in range(-bound * bottom, bound * bottom + 1)] for bound in bounds]
    return [tuple([as_ratio(number) for number in row]) for row in product(*axes)]


class TestRowOf(unittest.TestCase):
    def test_told_values(self):
        slips = [[(1, 2), (0, 1)], ((-1, 1), (1, 3))]
        self.assertEqual(leaves_alone(self, row_of, slips, 0), ((1, 2), (-1, 1)))
        self.assertEqual(row_of(slips, 1), ((0, 1), (1, 3)))
        all_tuples(self, row_of(slips, 0))

    def test_errors(self):
        for thing in (2, -1, *ODD_THINGS):
            raises(self, BadAxis, {"axis": thing}, row_of, [], thing)


class TestCheckSlipRow(unittest.TestCase):
    def test_rows(self):
        for row in ([(1, 2)], [(2, 1), (-2, 1)], ((0, 1), (3, 2), (-5, 4))):
            found = leaves_alone(self, check_slip_row, row)
            self.assertEqual(found, tuple(row))
            all_tuples(self, found)

    def test_errors(self):
        for call in (check_slip_row, stand_of, shares_of):
            for thing in ([], (), [ZERO] * 4, [None] * 4, {ZERO: ZERO}, *ODD_THINGS):
                raises(self, BadSlipRow, {"index": 0, "what": "many"}, call, thing)
            for thing in (0, [0, 1], (2, 4), (True, 1), (1, -1), *ODD_THINGS):
                raises(self, BadSlipRow, {"index": 1, "what": "ratio"}, call, [ZERO, thing, None])
            for thing in ((3, 1), (-3, 1), (201, 100), (-201, 100)):
                raises(self, BadSlipRow, {"index": 1, "what": "far"}, call, [ZERO, thing, None])
                raises(self, BadSlipRow, {"index": 0, "what": "far"}, call, (thing, None))


class TestStandOf(unittest.TestCase):
    def test_told_values(self):
        self.assertEqual(stand_of([(1, 2), (-1, 3), (1, 1)]), ((0, 1), (-1, 2), (1, 0)))
        self.assertEqual(stand_of([(1, 2), (-1, 2), (1, 3)]), ((0, 2), (-1, 2), (0, 1)))
        self.assertEqual(stand_of([(3, 4), (1, 2), (1, 4)]), ((0, 3), (0, 2), (0, 1)))
        self.assertEqual(stand_of([(2, 1)]), ((2, 0),))
        self.assertEqual(stand_of([(-3, 2)]), ((-2, 1),))

    def test_as_told(self):
        for row in drawn_rows(141, 200):
            found = leaves_alone(self, stand_of, list(row))
            self.assertEqual(found, plain_stand(row))
            all_tuples(self, found)
            self.assertEqual(check_stand(found), found)


class TestRowFrom(unittest.TestCase):
    def test_told_values(self):
        self.assertEqual(row_from([[0, 1], [-1, 2], [2, 0]]), ((1, 4), (-1, 2), (2, 1)))
        self.assertEqual(row_from(((-2, 1),)), ((-3, 2),))
        self.assertEqual(row_from(((1, 2), (0, 1))), ((5, 3), (1, 3)))

    def test_it_has_the_stand(self):
        for bounds in SOME_BOUNDS:
            for stand in all_stands(bounds):
                row = row_from(stand)
                self.assertEqual(stand_of(row), stand)
                for (floor, rank), ratio in zip(stand, row):
                    self.assertEqual(Fraction(*ratio), floor + Fraction(rank, len(stand) + 1))


class TestCheckStand(unittest.TestCase):
    def test_stands(self):
        told = [[0, 2], (-2, 1), [2, 0]]
        found = leaves_alone(self, check_stand, told)
        self.assertEqual(found, ((0, 2), (-2, 1), (2, 0)))
        all_tuples(self, found)
        told[0][0] = 1
        self.assertEqual(found[0], (0, 2))

    def test_errors(self):
        for call in (check_stand, row_from, corners_of):
            self.refuses(call)
        self.refuses(lambda stand: lies_at_edge(stand, None))
        self.refuses(lambda stand: lies_at_edge(((0, 0),), stand))

    def refuses(self, call):
        def wrong(index, what, stand):
            raises(self, BadStand, {"index": index, "what": what}, call, stand)
        for thing in ([], (), [(0, 0)] * 4, {(0, 0)}, *ODD_THINGS):
            wrong(0, "many", thing)
        for thing in ((), (0,), (0, 0, 0), {0: 0}, *ODD_THINGS):
            wrong(1, "plate", [(0, 0), thing, None])
        for thing in ((1, 2), *ODD_THINGS):
            wrong(1, "floor", [(0, 0), (thing, None), None])
            wrong(1, "rank", [(0, 0), [9, thing], None])
        wrong(0, "rank", [(0, -1)])
        for item in ((3, 0), (-3, 0), (2, 1), (-3, 1), (9, 5)):
            wrong(2, "far", [(0, 0), (0, 0), item])
            wrong(0, "far", [item, (0, None)])
        wrong(0, "gap", [(0, 2)])
        wrong(1, "gap", [(0, 0), (0, 2), (0, 3)])
        wrong(1, "gap", [(0, 1), (0, 3), (0, 3)])
        wrong(0, "gap", [(0, 3), (0, 1), (0, 0)])
        wrong(2, "gap", [(0, 2), (0, 1), (0, 4)])
        wrong(1, "floor", [(0, 2), (None, 0)])


class TestAllStands(unittest.TestCase):
    def test_told_values(self):
        self.assertEqual(list(all_stands((0,))), [((0, 0),)])
        self.assertEqual(list(all_stands([1])), [((-1, 0),), ((-1, 1),), ((0, 0),), ((0, 1),), ((1, 0),)])
        self.assertEqual(list(all_stands([1, 0])), [
            ((-1, 0), (0, 0)), ((-1, 1), (0, 0)), ((0, 0), (0, 0)), ((0, 1), (0, 0)), ((1, 0), (0, 0))])

    def test_just_the_stands_of_all_rows(self):
        for bounds in SOME_BOUNDS:
            found = list(all_stands(bounds))
            wanted = sorted({plain_stand(row) for row in grid_rows(bounds, len(bounds) + 1)})
            self.assertEqual(found, wanted)
            self.assertEqual(count_stands(list(bounds)), len(wanted))
            all_tuples(self, tuple(found))

    def test_rows_of_finer_steps_have_no_further_stands(self):
        for bounds in ((1,), (1, 1), (0, 2), (1, 0, 1)):
            self.assertEqual({plain_stand(row) for row in grid_rows(bounds, 12)}, set(all_stands(bounds)))

    def test_numbers(self):
        self.assertEqual([count_stands((bound,)) for bound in (0, 1, 2)], [1, 5, 9])
        self.assertEqual(count_stands((2, 2, 2)), 1977)

    def test_a_generator(self):
        self.assertIs(iter(all_stands((1,))).__class__, (x for x in ()).__class__)

    def test_bounds(self):
        found = leaves_alone(self, check_bounds, [0, 2, 1])
        self.assertEqual(found, (0, 2, 1))
        all_tuples(self, found)

    def test_errors(self):
        for call in (check_bounds, count_stands, lambda bounds: list(all_stands(bounds))):
            for thing in ([], (), [0] * 4, {0}, *ODD_THINGS):
                raises(self, BadBounds, {"index": 0, "what": "many"}, call, thing)
            for thing in (3, -1, (1, 1), *ODD_THINGS):
                raises(self, BadBounds, {"index": 1, "what": "bound"}, call, [0, thing, None])


class TestCorners(unittest.TestCase):
    def test_told_values(self):
        self.assertEqual(corners_of([[0, 2], [-1, 1], [1, 0]]), ((1, 0, 1), (1, -1, 1), (0, -1, 1)))
        self.assertEqual(corners_of(((2, 0), (-2, 0))), ((2, -2),))
        self.assertEqual(corners_of(((0, 1), (0, 1))), ((1, 1), (0, 0)))
        self.assertEqual(shares_of([(1, 3), (3, 4)]), ((1, 3), (5, 12), (1, 4)))
        self.assertEqual(shares_of([(1, 1)]), ((1, 1),))
        self.assertEqual(shares_of(((-1, 4), (1, 4), (7, 4))), ((1, 4), (1, 2), (1, 4)))

    def test_the_row_is_the_mean_of_the_corners(self):
        for row in drawn_rows(142, 150):
            shares = leaves_alone(self, shares_of, list(row))
            corners = corners_of(stand_of(row))
            all_tuples(self, (shares, corners))
            self.assertEqual(len(shares), len(corners))
            self.assertEqual(sum([Fraction(*share) for share in shares]), 1)
            self.assertTrue(all(share[0] > 0 for share in shares))
            for plate, ratio in enumerate(row):
                mean = sum([Fraction(*share) * corner[plate] for share, corner in zip(shares, corners)])
                self.assertEqual(mean, Fraction(*ratio))

    def test_corners_fall(self):
        for stand in all_stands((1, 2, 0)):
            corners = corners_of(stand)
            self.assertEqual(len(corners), 1 + max(rank for _, rank in stand))
            for t, corner in enumerate(corners):
                self.assertEqual(corner, tuple([floor + (rank > t) for floor, rank in stand]))

    def test_stand_from(self):
        self.assertEqual(leaves_alone(self, stand_from, [[1, 0, 1], (1, -1, 1), [0, -1, 1]]),
                         ((0, 2), (-1, 1), (1, 0)))
        for bounds in SOME_BOUNDS:
            for stand in all_stands(bounds):
                found = stand_from([list(corner) for corner in corners_of(stand)])
                self.assertEqual(found, stand)
                all_tuples(self, found)

    def test_each_lot_of_corners_is_a_stand_or_refused(self):
        rows = list(product((-1, 0, 1), repeat=2))
        known = {corners_of(stand) for stand in all_stands((1, 1))}
        for many in (1, 2, 3):
            for corners in product(rows, repeat=many):
                if corners in known:
                    self.assertEqual(corners_of(stand_from(corners)), corners)
                else:
                    with self.assertRaises(BadCorners) as caught:
                        stand_from(corners)
                    self.assertEqual(caught.exception.what, "step")

    def test_bad_corners(self):
        def wrong(index, what, corners):
            raises(self, BadCorners, {"index": index, "what": what}, stand_from, corners)
        for thing in ([], (), [(0,)] * 5, {(0,)}, *ODD_THINGS):
            wrong(0, "many", thing)
        for thing in ((), (0, 0, 0, 0), (3,), (-3,), (True,), ((0,),), ("0",), {0}, (0.0,), *ODD_THINGS):
            wrong(0, "row", [thing, None])
            wrong(1, "row", [(0,), thing, None])
        for row in ((0, 3), (-3, 0), (0, True), (None, 0)):
            wrong(0, "row", [row, None])
        wrong(1, "row", [(0, 0), (0,)])
        wrong(1, "row", [(1,), (0, 0)])
        wrong(2, "row", [(1, 1), (0, 1), (0, 0, 0)])
        for row in ((1, 1), (2, 0), (-1, 1), (0, -1), (2, 1), (1, 2)):
            wrong(1, "step", [(1, 1), row, None])
        wrong(2, "step", [(1, 1), (0, 1), (-1, 1)])
        wrong(2, "step", [(1, 1), (0, 1), (0, 1)])
        wrong(2, "step", [(1, 1), (0, 1), (1, 1)])
        wrong(3, "step", [(1, 1, 1), (0, 1, 1), (0, 0, 1), (0, -1, 0)])
        wrong(3, "step", [(1, 1), (0, 1), (0, 0), (0, 0)])
        self.assertEqual(stand_from([(1, 1, 1), (0, 1, 1), (0, 0, 1), (0, 0, 0)]), ((0, 1), (0, 2), (0, 3)))


class TestLiesAtEdge(unittest.TestCase):
    def test_told_values(self):
        self.assertIs(lies_at_edge([[0, 0]], [[0, 1]]), True)
        self.assertIs(lies_at_edge(((1, 0),), ((0, 1),)), True)
        self.assertIs(lies_at_edge(((0, 1),), ((0, 0),)), False)
        self.assertIs(lies_at_edge(((-1, 0),), ((0, 1),)), False)
        self.assertIs(lies_at_edge(((0, 1),), ((0, 1),)), True)
        self.assertIs(lies_at_edge(((0, 1), (0, 1)), ((0, 1), (0, 2))), True)
        self.assertIs(lies_at_edge(((0, 0),), ((0, 0), (0, 0))), False)
        self.assertIs(lies_at_edge(((0, 0), (0, 0)), ((0, 0),)), False)

    def test_rows_near_by(self):
        small = Fraction(1, 1000)
        for bounds in ((1, 1), (1, 0, 1)):
            near = {}
            for stand in all_stands(bounds):
                row = [Fraction(*ratio) for ratio in row_from(stand)]
                near[stand] = set()
                for steps in product((-2, -1, 0, 1, 2), repeat=len(row)):
                    moved = tuple([as_ratio(number + step * small) for number, step in zip(row, steps)])
                    near[stand].add(plain_stand(moved))
            for one in near:
                for other in near:
                    self.assertIs(lies_at_edge(one, other), other in near[one])


if __name__ == "__main__":
    unittest.main()
