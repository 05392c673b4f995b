import unittest
from itertools import permutations

from neverbare.errors import BadOrder, BadPlace, BadSlips, NotLike, OnLine
from neverbare.jobs import Job
from neverbare.plates import Plate
from neverbare.shows import shown_at
from neverbare.unlike import Unlike, check_comparable, check_order, shown_by
from tests.helping import (
    BAD_PLACES, BAD_SLIPS, EXAMPLE, ODD_THINGS, STILL, ZERO, Draws, all_tuples, drawn_jobs, drawn_place, drawn_slips,
    leaves_alone, on_no_line, plain_on, raises, refuses,
)

PLACE = ((5, 2), (1, 2))
BAD_ORDERS = (
    [(thing, {"what": "many"}) for thing in ((), (0,), (0, 1, 2), {0: 1, 1: 0}, *ODD_THINGS)]
    + [(thing, {"what": "plate"})
       for thing in ((0, 0), [1, 1], (0, 2), (-1, 0), (False, 1), (0, True), (ZERO, 0), *[(0, odd) for odd in ODD_THINGS])]
)


def plain_shown_by(job, order, slips, place):
    """The showing if the job is printed in another order, as [5.8] says it."""
    shown = []
    for plate in reversed(order):
        if plain_on(job.plates[plate], slips[plate], place):
            shown.append(plate)
            if job.plates[plate].hiding:
                break
    return tuple(sorted(shown))


class TestCheckComparable(unittest.TestCase):
    def test_comparable(self):
        one = Job(3, 2, [Plate([(0, 0)], True, (1, 0)), Plate([], False, (2, 1))])
        other = Job(3, 2, [Plate([], True, (1, 0)), Plate([(2, 1)], False, (2, 1))])
        self.assertIsNone(leaves_alone(self, check_comparable, one, other))
        self.assertIsNone(check_comparable(one, one))

    def test_errors(self):
        hiding, clear = Plate([], True, (1, 0)), Plate([], False, (1, 0))
        far, steep = Plate([], False, (2, 0)), Plate([], False, (1, 1))
        one = Job(3, 2, [clear, hiding])
        for what, other in (
            ("field", Job(2, 2, [far])), ("field", Job(3, 1, [clear, hiding])), ("many", Job(3, 2, [hiding])),
            ("many", Job(3, 2, [clear, hiding, clear])), ("hiding", Job(3, 2, [far, clear])),
            ("hiding", Job(3, 2, [hiding, hiding])), ("bound", Job(3, 2, [far, hiding])),
            ("bound", Job(3, 2, [steep, hiding])), ("bound", Job(3, 2, [clear, Plate([], True, (1, 1))])),
        ):
            raises(self, NotLike, {"what": what}, check_comparable, one, other)
            raises(self, NotLike, {"what": what}, check_comparable, other, one)


class TestCheckOrder(unittest.TestCase):
    def test_orders(self):
        self.assertEqual(leaves_alone(self, check_order, EXAMPLE, [1, 0]), (1, 0))
        all_tuples(self, check_order(EXAMPLE, [0, 1]))
        three = Job(1, 1, [Plate([])] * 3)
        for order in permutations((0, 1, 2)):
            self.assertEqual(check_order(three, order), order)

    def test_errors(self):
        refuses(self, check_order, [EXAMPLE, None], 1, BadOrder, BAD_ORDERS)


class TestShownBy(unittest.TestCase):
    def test_told_values(self):
        slips = [[ZERO, ZERO], STILL]
        self.assertEqual(leaves_alone(self, shown_by, EXAMPLE, [0, 1], slips, PLACE), (1,))
        self.assertEqual(shown_by(EXAMPLE, [1, 0], slips, list(PLACE)), (0, 1))
        all_tuples(self, shown_by(EXAMPLE, [1, 0], slips, PLACE))
        clear = EXAMPLE.with_hiding(1, False)
        self.assertEqual(shown_by(clear, (0, 1), slips, PLACE), (0, 1))
        self.assertEqual(shown_by(clear, (1, 0), slips, PLACE), (0, 1))

    def test_all_orders(self):
        draws = Draws(441)
        for job in drawn_jobs(442, 60):
            slips = drawn_slips(draws, job)
            for _ in range(3):
                place = drawn_place(draws, job)
                if on_no_line(job, slips, place):
                    for order in permutations(range(len(job))):
                        self.assertEqual(shown_by(job, order, slips, place), plain_shown_by(job, order, slips, place))
                    self.assertEqual(shown_by(job, tuple(range(len(job))), slips, place), shown_at(job, slips, place))

    def test_errors(self):
        good = [EXAMPLE, (1, 0), (STILL, STILL), PLACE]
        refuses(self, shown_by, good, 1, BadOrder, BAD_ORDERS)
        refuses(self, shown_by, good, 2, BadSlips, BAD_SLIPS)
        refuses(self, shown_by, good, 3, BadPlace, BAD_PLACES)
        raises(self, OnLine, {"plate": 0}, shown_by, EXAMPLE, (1, 0), (STILL, STILL), (ZERO, (1, 2)))
        raises(self, OnLine, {"plate": 1}, shown_by, EXAMPLE, (1, 0), (STILL, ((1, 2), ZERO)), PLACE)
        empty = Job(1, 1, [Plate([]), Plate([(0, 0)])])
        raises(self, OnLine, {"plate": 0}, shown_by, empty, (1, 0), (STILL, (((1, 2)), ZERO)), ((1, 1), (1, 2)))


class TestResult(unittest.TestCase):
    def test_kept_and_equal(self):
        one = Unlike([1], [2], [3], [4])
        self.assertEqual(list(vars(one).items()), [("slips", [1]), ("place", [2]), ("showing", [3]), ("other", [4])])
        self.assertTrue(one == Unlike([1], [2], [3], [4]))
        self.assertFalse(one != Unlike([1], [2], [3], [4]))
        for at in range(4):
            parts = [[1], [2], [3], [4]]
            parts[at] = [9]
            self.assertFalse(one == Unlike(*parts))
        self.assertFalse(one == 1)


if __name__ == "__main__":
    unittest.main()
