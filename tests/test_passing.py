import unittest
from fractions import Fraction

from neverbare.errors import BadBounds, BadSlipRow
from neverbare.passing import all_apart, apart_of, apart_stand, stands_between
from neverbare.stands import all_stands, row_from, stand_of
from tests.helping import ODD_THINGS, all_tuples, as_ratio, leaves_alone, raises
from tests.test_stands import drawn_rows, grid_rows, plain_stand

ZERO = (0, 1)
ONE = (1, 1)
HALF = (1, 2)


def bad_row(case, call):
    for thing in ([], [ZERO] * 4, {ZERO}, *ODD_THINGS):
        raises(case, BadSlipRow, {"index": 0, "what": "many"}, call, thing)
    for thing in (0, [0, 1], (2, 4), (True, 1), *ODD_THINGS):
        raises(case, BadSlipRow, {"index": 1, "what": "ratio"}, call, [ZERO, thing, None])
    for thing in ((3, 1), (-9, 4)):
        raises(case, BadSlipRow, {"index": 1, "what": "far"}, call, [ZERO, thing, None])


class TestStandsBetween(unittest.TestCase):
    def test_told_values(self):
        self.assertEqual(leaves_alone(self, stands_between, [HALF, ZERO], [HALF, ONE]), (
            (ZERO, ZERO, ((0, 1), (0, 0))),
            (ZERO, HALF, ((0, 2), (0, 1))),
            (HALF, HALF, ((0, 1), (0, 1))),
            (HALF, ONE, ((0, 1), (0, 2))),
            (ONE, ONE, ((0, 1), (1, 0))),
        ))
        self.assertEqual(stands_between(((1, 3),), ((-1, 3),)), (
            (ZERO, HALF, ((0, 1),)), (HALF, HALF, ((0, 0),)), (HALF, ONE, ((-1, 1),))))
        self.assertEqual(stands_between(((-2, 1),), ((1, 1),)), (
            (ZERO, ZERO, ((-2, 0),)), (ZERO, (1, 3), ((-2, 1),)), ((1, 3), (1, 3), ((-1, 0),)),
            ((1, 3), (2, 3), ((-1, 1),)), ((2, 3), (2, 3), ((0, 0),)), ((2, 3), ONE, ((0, 1),)),
            (ONE, ONE, ((1, 0),))))
        all_tuples(self, stands_between(((1, 3),), ((-1, 3),)))

    def test_equal_rows_and_rows_that_go_together(self):
        for row in ((HALF, (1, 3)), (ONE, ZERO)):
            self.assertEqual(stands_between(row, list(row)), ((ZERO, ONE, stand_of(row)),))
        self.assertEqual(stands_between(((1, 4), (1, 2)), ((1, 3), (3, 4))), ((ZERO, ONE, ((0, 1), (0, 2))),))
        self.assertEqual(stands_between(((-3, 4), (1, 4)), ((-1, 4), (3, 4))), ((ZERO, ONE, ((-1, 1), (0, 1))),))

    def test_as_told(self):
        rows = drawn_rows(151, 90)
        for row, other in zip(rows, rows[3:]):
            found = stands_between(row, other)
            self.assertEqual(found[0][0], ZERO)
            self.assertEqual(found[-1][1], ONE)
            stands = [stand for _, _, stand in found]
            self.assertEqual(len(stands), len(set(stands)))
            for before, after in zip(found, found[1:]):
                self.assertEqual(after[0], before[1])
                self.assertNotEqual(before[0] == before[1], after[0] == after[1])
            for k in range(61):
                time = Fraction(k, 60)
                here = [Fraction(*a) + time * (Fraction(*b) - Fraction(*a)) for a, b in zip(row, other)]
                wanted = plain_stand([as_ratio(number) for number in here])
                holding = [stand for start, end, stand in found
                           if Fraction(*start) <= time <= Fraction(*end) and stand == wanted]
                self.assertEqual(len(holding), 1)
            for start, end, stand in found:
                time = (Fraction(*start) + Fraction(*end)) / 2
                here = [Fraction(*a) + time * (Fraction(*b) - Fraction(*a)) for a, b in zip(row, other)]
                self.assertEqual(plain_stand([as_ratio(number) for number in here]), stand)

    def test_the_way_back(self):
        rows = drawn_rows(152, 30)
        for row, other in zip(rows, rows[3:]):
            back = [(as_ratio(1 - Fraction(*end)), as_ratio(1 - Fraction(*start)), stand)
                    for start, end, stand in reversed(stands_between(other, row))]
            self.assertEqual(stands_between(row, other), tuple(back))

    def test_errors_in_order(self):
        bad_row(self, lambda row: stands_between(row, None))
        bad_row(self, lambda row: stands_between([ZERO], row))
        for one, other in (([ZERO], [ZERO, ZERO]), ([ZERO] * 3, [ZERO])):
            raises(self, BadSlipRow, {"index": 0, "what": "many"}, stands_between, one, other)
        raises(self, BadSlipRow, {"index": 1, "what": "far"}, stands_between, [ZERO], [ZERO, (5, 2)])


class TestApart(unittest.TestCase):
    def test_apart_stand(self):
        for one, other, wanted in ((HALF, ZERO, (0, False)), (ZERO, HALF, (-1, False)), (ONE, ZERO, (1, True)),
                                   (ZERO, ONE, (-1, True)), ((3, 2), HALF, (1, True)), ((9, 1), (1, 3), (8, False)),
                                   (ZERO, ZERO, (0, True))):
            found = apart_stand(one, other)
            self.assertEqual(found, wanted)
            self.assertIs(type(found[0]), int)
            self.assertIs(type(found[1]), bool)

    def test_apart_of(self):
        self.assertEqual(apart_of([HALF]), ())
        self.assertEqual(leaves_alone(self, apart_of, [HALF, (-1, 3), (1, 1)]),
                         ((0, False), (-1, False), (-2, False)))
        self.assertEqual(apart_of(((2, 1), (-2, 1), (0, 1))), ((4, True), (2, True), (-2, True)))
        all_tuples(self, apart_of([HALF, ZERO]))
        bad_row(self, apart_of)

    def test_one_apart_of_exactly_if_all_lines_lie_in_one_order(self):
        def order(row):
            lines = [(Fraction(*ratio) + k, plate) for plate, ratio in enumerate(row) for k in range(-8, 9)]
            return [[(plate, k) for plate in range(len(row)) for k in range(-8, 9)
                     if Fraction(*row[plate]) + k == line] for line in sorted({line for line, _ in lines})]
        rows = grid_rows((1, 1), 3)[::3]
        orders = {row: order(row) for row in rows}
        for row in rows:
            for other in rows:
                self.assertEqual(apart_of(row) == apart_of(other), orders[row] == orders[other])


class TestAllApart(unittest.TestCase):
    def test_told_values(self):
        self.assertEqual(all_apart([1]), (((), ((-1, 1),)),))
        self.assertEqual(all_apart((0, 0)), ((((0, True),), (ZERO, ZERO)),))
        self.assertEqual(all_apart([1, 0]), (
            (((-1, False),), ((-2, 3), ZERO)),
            (((-1, True),), ((-1, 1), ZERO)),
            (((0, False),), ((1, 3), ZERO)),
            (((0, True),), (ZERO, ZERO)),
            (((1, True),), (ONE, ZERO)),
        ))

    def test_numbers(self):
        for a in range(3):
            for b in range(3):
                self.assertEqual(len(all_apart((a, b))), 4 * (a + b) + 1)
        self.assertEqual(len(all_apart((1, 1, 1))), 85)

    def test_as_told(self):
        for bounds in ((2,), (1, 1), (0, 2), (1, 0, 1), (1, 1, 1), (0, 2, 1)):
            found = leaves_alone(self, all_apart, list(bounds))
            all_tuples(self, found)
            wanted = {}
            for stand in all_stands(bounds):
                row = row_from(stand)
                wanted.setdefault(apart_of(row), row)
            self.assertEqual(found, tuple(sorted(wanted.items())))
            self.assertEqual({apart for apart, _ in found},
                             {apart_of(row) for row in grid_rows(bounds, 4)})

    def test_errors(self):
        for thing in ([], [0] * 4, *ODD_THINGS):
            raises(self, BadBounds, {"index": 0, "what": "many"}, all_apart, thing)
        for thing in (3, -1, *ODD_THINGS):
            raises(self, BadBounds, {"index": 1, "what": "bound"}, all_apart, [0, thing, None])


if __name__ == "__main__":
    unittest.main()
