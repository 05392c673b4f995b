import unittest
from fractions import Fraction

from neverbare.errors import BadSlips, TooMany
from neverbare.jobs import Job
from neverbare.passing import all_apart, apart_of
from neverbare.plates import Plate
from neverbare.samples import apart_at, apart_samples
from neverbare.sheets import table_of
from neverbare.slips import check_slips
from tests.helping import (
    BAD_SLIPS, EXAMPLE, STILL, ZERO, Draws, all_tuples, drawn_jobs, drawn_slips, leaves_alone, number, raises, refuses,
)

HALF = ((1, 2), ZERO)
INK = [(0, 0)]


def plain_apart(job, slips):
    rows = []
    for axis in (0, 1):
        told = [number(slip[axis]) for slip, plate in zip(slips, job) if plate.cells]
        rows.append(tuple(
            ((told[p] - told[q]).__floor__(), (told[p] - told[q]).denominator == 1)
            for p in range(len(told)) for q in range(p + 1, len(told))))
    return tuple(rows)


class TestApartAt(unittest.TestCase):
    def test_told_values(self):
        found = leaves_alone(self, apart_at, EXAMPLE, [HALF, [ZERO, ZERO]])
        self.assertEqual(found, (((0, False),), ((0, True),)))
        all_tuples(self, found)
        three = Job(1, 1, [Plate(INK, False, (1, 2)), Plate([], False, (1, 2)), Plate(INK, False, (1, 2))])
        self.assertEqual(apart_at(three, (((-1, 2), ZERO), STILL, (ZERO, (1, 3)))), (((-1, False),), ((-1, False),)))
        self.assertEqual(apart_at(Job(1, 1, [Plate(INK), Plate([])]), (STILL, STILL)), ((), ()))
        self.assertEqual(apart_at(Job(1, 1, [Plate([]), Plate([])]), (STILL, STILL)), ((), ()))

    def test_drawn_slips(self):
        draws = Draws(571)
        for job in drawn_jobs(572, 100):
            slips = drawn_slips(draws, job)
            self.assertEqual(apart_at(job, slips), plain_apart(job, slips))

    def test_errors(self):
        refuses(self, apart_at, [EXAMPLE, None], 1, BadSlips, BAD_SLIPS)


class TestApartSamples(unittest.TestCase):
    def test_numbers(self):
        for one in ((0, 0), (1, 0), (1, 1), (0, 2)):
            for other in ((0, 0), (1, 0), (2, 1)):
                job = Job(1, 1, [Plate(INK, False, one), Plate(INK, True, other)])
                many = (4 * (one[0] + other[0]) + 1) * (4 * (one[1] + other[1]) + 1)
                self.assertEqual(len(apart_samples(job)), many)
        self.assertEqual(len(apart_samples(Job(1, 1, [Plate(INK, False, (1, 0))] * 3))), 85)

    def test_few_ink_plates(self):
        self.assertEqual(apart_samples(Job(1, 1, [Plate([], False, (2, 1)), Plate([])])), ((STILL, STILL),))
        one = Job(1, 1, [Plate([]), Plate(INK, False, (2, 1)), Plate([])])
        self.assertEqual(leaves_alone(self, apart_samples, one), ((STILL, ((-2, 1), (-1, 1)), STILL),))
        all_tuples(self, apart_samples(one))

    def test_their_order(self):
        job = Job(1, 1, [Plate(INK, False, (1, 0)), Plate([], False, (2, 2)), Plate(INK, False, (0, 1))])
        along_x, along_y = all_apart((1, 0)), all_apart((0, 1))
        self.assertEqual(apart_samples(job), tuple(
            ((x[1][0], y[1][0]), STILL, (x[1][1], y[1][1])) for x in along_x for y in along_y))
        self.assertEqual(apart_samples(job)[:2], (
            (((-2, 3), ZERO), STILL, (ZERO, (1, 3))), (((-2, 3), ZERO), STILL, (ZERO, (1, 1)))))

    def test_each_apart_at_once(self):
        draws = Draws(573)
        for job in drawn_jobs(574, 60, bounds=((0, 0), (1, 0), (0, 1), (2, 0))):
            bounds = [[plate.bound[axis] for plate in job if plate.cells] for axis in (0, 1)]
            many = 1 if bounds[0] == [] else len(all_apart(bounds[0])) * len(all_apart(bounds[1]))
            if many > 400:
                raises(self, TooMany, {"most": 400}, apart_samples, job)
                continue
            samples = apart_samples(job)
            self.assertEqual(len(samples), many)
            found = [apart_at(job, slips) for slips in samples]
            self.assertEqual(len(set(found)), len(found))
            self.assertEqual(found, sorted(found))
            tables = {apart: table_of(job, slips) for apart, slips in zip(found, samples)}
            for slips in samples:
                self.assertEqual(check_slips(job, slips), slips)
                all_tuples(self, slips)
            for _ in range(8):  # slips with the same apart_at have the same rows
                slips = drawn_slips(draws, job)
                self.assertEqual(table_of(job, slips), tables[apart_at(job, slips)])

    def test_too_many(self):
        job = Job(1, 1, [Plate(INK, False, (2, 2)), Plate(INK, False, (2, 2))])
        self.assertEqual(17 * 17, len(apart_samples(job)))
        three = Job(1, 1, [Plate(INK, False, (1, 0)), Plate(INK, False, (1, 0)), Plate(INK, False, (1, 1))])
        raises(self, TooMany, {"most": 400}, apart_samples, three)
        self.assertEqual(len(apart_samples(three.without_ink(0, (0, 0)))), 45)
        wide = Job(1, 1, [Plate(INK, False, (1, 0)), Plate(INK, False, (1, 0)), Plate(INK, False, (1, 0))])
        self.assertLessEqual(len(apart_samples(wide.with_bound(0, (2, 0)))), 400)
        raises(self, TooMany, {"most": 400}, apart_samples, Job(1, 1, [Plate(INK, False, (2, 2))] * 3))
        counts = {}
        for bounds in ((2, 2, 2), (2, 2, 1), (2, 1, 1), (2, 2, 0)):
            counts[bounds] = len(all_apart(bounds))
            plates = [Plate(INK, False, (bound, 0)) for bound in bounds]
            if counts[bounds] <= 400:
                self.assertEqual(len(apart_samples(Job(1, 1, plates))), counts[bounds])
            else:
                raises(self, TooMany, {"most": 400}, apart_samples, Job(1, 1, plates))

    def test_apart_rows(self):
        for slips in apart_samples(EXAMPLE):
            self.assertEqual(apart_at(EXAMPLE, slips)[0], apart_of((slips[0][0], slips[1][0])))
            self.assertTrue(abs(Fraction(*slips[0][0])) <= 1 and slips[0][1] == ZERO)


if __name__ == "__main__":
    unittest.main()
