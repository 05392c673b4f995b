import unittest

from neverbare.cells import (
    check_axis, check_cells, check_reach, grown_cells, is_cell, is_reach, near_cells, shrunk_cells,
)
from neverbare.errors import BadAxis, BadCells, BadReach
from tests.helping import ODD_THINGS, Draws, all_tuples, cell_lists, leaves_alone, raises

NO_CELLS = ((), (1,), (1, 2, 3), (21, 0), (0, 21), (-21, 0), (0, -21), (True, 0), (0, False), (1.0, 0),
            ("0", 0), (None, 0), ((0, 1), 0), "00")
NO_REACHES = ((), (1,), (1, 1, 1), (3, 0), (0, 3), (-1, 0), (0, -1), (True, 0), (0, True), (1.0, 0), "11")
REACHES = [(x, y) for x in range(3) for y in range(3)]


class TestCell(unittest.TestCase):
    def test_cells(self):
        for thing in ((0, 0), [0, 0], (20, 20), (-20, -20), [20, -20], (3, -7)):
            self.assertIs(is_cell(thing), True)

    def test_no_cells(self):
        for thing in (*NO_CELLS, *ODD_THINGS, {1: 2, 3: 4}, {0, 1}, [1], [1, 2, 3], [21, 0], [True, 1]):
            self.assertIs(is_cell(thing), False, thing)


class TestCheckCells(unittest.TestCase):
    def test_ascending_unlike_tuples(self):
        told = [[2, 1], (0, 5), [0, 5], (-1, 9), (2, 0), [2, 1]]
        self.assertEqual(leaves_alone(self, check_cells, told), ((-1, 9), (0, 5), (2, 0), (2, 1)))
        all_tuples(self, check_cells(told))
        self.assertEqual(check_cells([]), ())
        self.assertEqual(check_cells(()), ())

    def test_result_is_not_bound_to_the_list(self):
        told = [[1, 1]]
        found = check_cells(told)
        told[0][0] = 7
        told.append([2, 2])
        self.assertEqual(found, ((1, 1),))

    def test_at_most_100(self):
        self.assertEqual(check_cells([(1, 1)] * 100), ((1, 1),))
        raises(self, BadCells, {"index": 0, "what": "many"}, check_cells, [(1, 1)] * 101)
        raises(self, BadCells, {"index": 0, "what": "many"}, check_cells, [None] * 101)

    def test_no_sequence(self):
        for thing in (*ODD_THINGS, {(1, 1)}, {(1, 1): 1}, iter([(1, 1)])):
            raises(self, BadCells, {"index": 0, "what": "many"}, check_cells, thing)

    def test_first_item_that_is_no_cell(self):
        for thing in (*NO_CELLS, *ODD_THINGS):
            told = [(0, 0), [1, 1], thing, None]
            raises(self, BadCells, {"index": 2, "what": "cell"}, check_cells, told)
        raises(self, BadCells, {"index": 0, "what": "cell"}, check_cells, (0, 0))


class TestAxisAndReach(unittest.TestCase):
    def test_axis(self):
        self.assertEqual(check_axis(0), 0)
        self.assertEqual(check_axis(1), 1)
        for thing in (2, -1, True, False, None, "0", 0.0, (0,)):
            raises(self, BadAxis, {"axis": thing}, check_axis, thing)

    def test_reach(self):
        for reach in REACHES:
            self.assertEqual(check_reach(reach), reach)
            found = leaves_alone(self, check_reach, list(reach))
            self.assertEqual(found, reach)
            all_tuples(self, found)

    def test_no_reach(self):
        for thing in (*NO_REACHES, *ODD_THINGS, {0: 0, 1: 1}):
            self.assertIs(is_reach(thing), False)
            raises(self, BadReach, {}, check_reach, thing)


class TestNear(unittest.TestCase):
    def test_near(self):
        self.assertEqual(near_cells((3, 4), (0, 0)), ((3, 4),))
        self.assertEqual(near_cells([3, 4], [1, 0]), ((2, 4), (3, 4), (4, 4)))
        self.assertEqual(near_cells((3, 4), (0, 1)), ((3, 3), (3, 4), (3, 5)))
        self.assertEqual(near_cells((0, 0), (1, 1)), (
            (-1, -1), (-1, 0), (-1, 1), (0, -1), (0, 0), (0, 1), (1, -1), (1, 0), (1, 1),
        ))

    def test_near_for_all_reaches(self):
        for rx, ry in REACHES:
            wanted = [(x, y) for x in range(-9, 10) for y in range(-9, 10)
                      if abs(x - 1) <= rx and abs(y + 2) <= ry]
            self.assertEqual(near_cells((1, -2), (rx, ry)), tuple(wanted))

    def test_beyond_20(self):
        self.assertEqual(near_cells((20, -20), (2, 1))[-1], (22, -19))

    def test_errors(self):
        for thing in (*NO_REACHES, *ODD_THINGS):
            raises(self, BadReach, {}, near_cells, (0, 0), thing)


class TestGrownAndShrunk(unittest.TestCase):
    def drawn(self):
        draws = Draws(3)
        for _ in range(20):
            yield [(draws.below(6), draws.below(5)) for _ in range(draws.below(20))]

    def test_as_told(self):
        about = [(x, y) for x in range(-3, 10) for y in range(-3, 10)]
        for cells in self.drawn():
            for reach in REACHES:
                grown = [cell for cell in about if any(near in cells for near in near_cells(cell, reach))]
                shrunk = [cell for cell in about if all(near in cells for near in near_cells(cell, reach))]
                self.assertEqual(grown_cells(cells, reach), tuple(grown))
                self.assertEqual(shrunk_cells(cells, reach), tuple(shrunk))

    def test_within_one_another(self):
        for cells in self.drawn():
            for reach in REACHES:
                self.assertLessEqual(set(shrunk_cells(cells, reach)), set(cells))
                self.assertLessEqual(set(cells), set(grown_cells(cells, reach)))

    def test_more_cells_have_no_fewer(self):
        for cells in self.drawn():
            for reach in REACHES:
                for call in (grown_cells, shrunk_cells):
                    self.assertLessEqual(set(call(cells[1:], reach)), set(call(cells, reach)))

    def test_lists_and_doubles(self):
        cells = [[2, 0], [0, 0], [1, 0], [1, 0]]
        self.assertEqual(leaves_alone(self, shrunk_cells, cells, [1, 0]), ((1, 0),))
        self.assertEqual(leaves_alone(self, grown_cells, cells, [1, 0]),
                         ((-1, 0), (0, 0), (1, 0), (2, 0), (3, 0)))
        self.assertEqual(grown_cells([], (1, 1)), ())
        self.assertEqual(shrunk_cells((), (1, 1)), ())
        self.assertEqual(grown_cells(cell_lists([(20, 20)]), (2, 2))[-1], (22, 22))

    def test_errors(self):
        for call in (grown_cells, shrunk_cells):
            raises(self, BadCells, {"index": 0, "what": "many"}, call, None, None)
            raises(self, BadCells, {"index": 0, "what": "many"}, call, [(0, 0)] * 101, (1, 1))
            raises(self, BadCells, {"index": 1, "what": "cell"}, call, [(0, 0), (True, 0)], (3, 3))
            for thing in (*NO_REACHES, *ODD_THINGS):
                raises(self, BadReach, {}, call, [(0, 0)], thing)
                raises(self, BadReach, {}, call, [], thing)


if __name__ == "__main__":
    unittest.main()
