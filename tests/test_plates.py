import unittest

from neverbare.cells import grown_cells, shrunk_cells
from neverbare.errors import BadPlate
from neverbare.plates import Plate
from tests.helping import ODD_THINGS, Draws, all_tuples, drawn_plate, leaves_alone, raises

ALL_64 = [(x, y) for x in range(8) for y in range(8)]


class TestPlate(unittest.TestCase):
    def test_attributes(self):
        plate = Plate([[3, 1], (0, 7), [0, 2]], True, [0, 2])
        self.assertEqual(plate.cells, ((0, 2), (0, 7), (3, 1)))
        self.assertIs(plate.hiding, True)
        self.assertEqual(plate.bound, (0, 2))
        all_tuples(self, (plate.cells, plate.bound))

    def test_defaults(self):
        plate = Plate(())
        self.assertEqual((plate.cells, plate.hiding, plate.bound), ((), False, (1, 1)))
        self.assertIs(plate.hiding, False)
        by_name = Plate(bound=(2, 0), hiding=True, cells=[(1, 1)])
        self.assertEqual((by_name.cells, by_name.hiding, by_name.bound), (((1, 1),), True, (2, 0)))

    def test_what_is_passed_in_is_neither_changed_nor_kept(self):
        cells = [[2, 2], [1, 1]]
        bound = [1, 0]
        plate = leaves_alone(self, Plate, cells, False, bound)
        cells[0][0] = 5
        cells.append([3, 3])
        bound[0] = 2
        self.assertEqual(plate.cells, ((1, 1), (2, 2)))
        self.assertEqual(plate.bound, (1, 0))

    def test_up_to_64_cells(self):
        self.assertEqual(len(Plate(ALL_64).cells), 64)
        raises(self, BadPlate, {"what": "cells"}, Plate, [*ALL_64, (0, 0)])

    def test_bad_cells(self):
        odd = [[(8, 0)], [(0, 8)], [(-1, 0)], [(0, -1)], [(1, 1), [1, 1]], [(True, 0)], [(0, 1), (0, 1)],
               [(0,)], [(0, 1, 2)], [None], ["00"], {(0, 0)}, {(0, 0): 1}, (0, 0), [(0.0, 0)], [(0, False)]]
        for cells in (*odd, *ODD_THINGS):
            raises(self, BadPlate, {"what": "cells"}, Plate, cells)
            raises(self, BadPlate, {"what": "cells"}, Plate, cells, None, None)

    def test_bad_hiding(self):
        for hiding in (0, 1, None, "", "hiding", (), 1.0):
            raises(self, BadPlate, {"what": "hiding"}, Plate, [(0, 0)], hiding)
            raises(self, BadPlate, {"what": "hiding"}, Plate, [(0, 0)], hiding, None)

    def test_bad_bound(self):
        for bound in ((3, 0), (0, 3), (-1, 0), (1,), (1, 1, 1), (True, 0), None, 1, "11", (1.0, 1)):
            raises(self, BadPlate, {"what": "bound"}, Plate, [(0, 0)], True, bound)
        for bound in ((0, 0), (2, 2), [0, 1]):
            self.assertEqual(Plate([], False, bound).bound, tuple(bound))

    def test_len(self):
        self.assertEqual(len(Plate([])), 0)
        self.assertEqual(len(Plate([(0, 0), (5, 5)])), 2)

    def test_contains(self):
        plate = Plate([(0, 0), (1, 0), (2, 3)])
        for thing in ((0, 0), [0, 0], (1, 0), [2, 3]):
            self.assertIs(thing in plate, True)
        for thing in ((0, 1), [3, 2], (True, 0), (False, False), (0,), (0, 0, 0), (0.0, 0), (22, 0),
                      *ODD_THINGS, {0: 1, 1: 0}):
            self.assertIs(thing in plate, False)

    def test_grown_and_deep(self):
        plate = Plate([(2, 0), (3, 0), (4, 0), (5, 0), (6, 0)], True, (1, 0))
        self.assertEqual(plate.deep, ((3, 0), (4, 0), (5, 0)))
        self.assertEqual(plate.grown, ((1, 0), (2, 0), (3, 0), (4, 0), (5, 0), (6, 0), (7, 0)))
        draws = Draws(8)
        for _ in range(30):
            plate = drawn_plate(draws, 5, 4, ((0, 0), (1, 0), (0, 1), (1, 1), (2, 1)))
            self.assertEqual(plate.grown, grown_cells(plate.cells, plate.bound))
            self.assertEqual(plate.deep, shrunk_cells(plate.cells, plate.bound))

    def test_equality(self):
        one = Plate([(0, 0), (1, 2)], True, (1, 0))
        self.assertTrue(one == Plate([[1, 2], [0, 0]], True, [1, 0]))
        self.assertFalse(one != Plate([[1, 2], [0, 0]], True, [1, 0]))
        for other in (Plate([(0, 0)], True, (1, 0)), Plate(one.cells, False, (1, 0)),
                      Plate(one.cells, True, (0, 1)), one.cells, None, "plate"):
            self.assertFalse(one == other)
            self.assertTrue(one != other)


class TestFromRows(unittest.TestCase):
    def test_rows(self):
        plate = Plate.from_rows(["#..", ".##"], True, (0, 1))
        self.assertEqual(plate, Plate([(0, 0), (1, 1), (2, 1)], True, (0, 1)))
        self.assertEqual(Plate.from_rows(("#",)), Plate([(0, 0)], False, (1, 1)))
        self.assertEqual(Plate.from_rows(rows=["."], hiding=True, bound=[2, 2]), Plate([], True, (2, 2)))
        self.assertEqual(len(Plate.from_rows(["########"] * 8)), 64)
        leaves_alone(self, Plate.from_rows, ["#.", ".#"])

    def test_bad_rows(self):
        odd = ([], (), [""], ["#"] * 9, ["#########"], ["#", "##"], ["##", "#"], ["#x"], ["# "], [None], [["#"]],
               ["#", None], "#", [1], {"#"}, ["#\n"], [()], [("#",)])
        for rows in (*odd, *ODD_THINGS):
            raises(self, BadPlate, {"what": "rows"}, Plate.from_rows, rows)
            raises(self, BadPlate, {"what": "rows"}, Plate.from_rows, rows, None, None)

    def test_then_as_the_constructor(self):
        raises(self, BadPlate, {"what": "hiding"}, Plate.from_rows, ["#"], 1, None)
        raises(self, BadPlate, {"what": "bound"}, Plate.from_rows, ["#"], False, (3, 3))


if __name__ == "__main__":
    unittest.main()
