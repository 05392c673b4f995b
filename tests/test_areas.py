import unittest
from fractions import Fraction
from math import lcm

from neverbare.areas import (
    Extent, area_at, greatest_area, greatest_fault, least_area, least_fault, slips_of_area, whole_parts,
)
from neverbare.errors import BadArea, BadKind, BadRegion, BadSlips
from neverbare.jobs import Job
from neverbare.plates import Plate
from neverbare.regions import Deep, check_region, never_bare
from neverbare.slips import check_slips, finer_slips, mirrored_slips, turned_slips
from tests.helping import (
    BAD_KINDS, BAD_RATIOS, BAD_REGIONS, BAD_SLIPS, EXAMPLE, STILL, ZERO, Draws, all_kinds, all_tuples, as_ratio,
    drawn_jobs, drawn_region, drawn_slips, leaves_alone, middle, number, plain_kind, plain_showing, raises, refuses,
    whole_slips,
)

HALF = ((1, 2), ZERO)
LEFT, RIGHT = ((-1, 1), ZERO), ((1, 1), ZERO)


def plain_area(job, slips, region, kind):
    """The area, reckoned by small squares none of which a line cuts."""
    size = [lcm(*[slip[axis][1] for slip in slips]) for axis in (0, 1)]
    many = 0
    for x, y in {tuple(cell) for cell in region}:
        for i in range(size[0]):
            for j in range(size[1]):
                place = (as_ratio(x + Fraction(2 * i + 1, 2 * size[0])), as_ratio(y + Fraction(2 * j + 1, 2 * size[1])))
                many += plain_kind(plain_showing(job, slips, place), kind)
    return as_ratio(Fraction(many, size[0] * size[1]))


def plain_sizes(job, region, kind):
    """The area at all whole slips, in their order."""
    cells = {tuple(cell) for cell in region}
    return [(slips, sum(plain_kind(plain_showing(job, slips, middle(cell)), kind) for cell in cells))
            for slips in whole_slips(job)]


class TestAreaAt(unittest.TestCase):
    def test_told_values(self):
        region = [[2, 0], (3, 0), (2, 0)]
        slips = [HALF, [ZERO, ZERO]]
        self.assertEqual(leaves_alone(self, area_at, EXAMPLE, slips, region, "bare"), ZERO)
        self.assertEqual(area_at(EXAMPLE, (STILL, HALF), region, "bare"), ZERO)
        self.assertEqual(area_at(EXAMPLE, (HALF, HALF), region, "bare"), (1, 2))
        self.assertEqual(area_at(EXAMPLE, (HALF, HALF), region, ["shows", 1]), (3, 2))
        self.assertEqual(area_at(EXAMPLE, (LEFT, HALF), region, ("alone", 0)), (1, 2))
        self.assertEqual(area_at(EXAMPLE, (STILL, STILL), [], "bare"), ZERO)

    def test_small_squares(self):
        draws = Draws(421)
        for job in drawn_jobs(422, 40):
            slips = drawn_slips(draws, job)
            region = drawn_region(draws, job, 4)
            for kind in all_kinds(job):
                self.assertEqual(area_at(job, slips, region, kind), plain_area(job, slips, region, kind))

    def test_errors(self):
        for call in (area_at, whole_parts):
            good = [EXAMPLE, (STILL, STILL), [(0, 0)], "bare"]
            refuses(self, call, good, 1, BadSlips, BAD_SLIPS)
            refuses(self, call, good, 2, BadRegion, BAD_REGIONS)
            refuses(self, call, good, 3, BadKind, BAD_KINDS)


class TestWholeParts(unittest.TestCase):
    def test_told_values(self):
        slips = [HALF, [(1, 3), ZERO]]
        found = leaves_alone(self, whole_parts, EXAMPLE, slips, [[2, 0]], "bare")
        self.assertEqual(found, (((STILL, STILL), (1, 2), 0), ((RIGHT, STILL), (1, 6), 0), ((RIGHT, RIGHT), (1, 3), 1)))
        all_tuples(self, found)
        self.assertEqual(whole_parts(EXAMPLE, (LEFT, STILL), [], "bare"), (((LEFT, STILL), (1, 1), 0),))

    def test_the_area_is_their_mean(self):
        draws = Draws(423)
        for job in drawn_jobs(424, 40):
            slips = drawn_slips(draws, job)
            region = drawn_region(draws, job, 5)
            kind = draws.one_of(all_kinds(job))
            sizes = dict(plain_sizes(job, region, kind))
            found = whole_parts(job, slips, region, kind)
            self.assertEqual(list(found), sorted(found))
            self.assertEqual(len({row[0] for row in found}), len(found))
            many = [len({Fraction(*slip[axis]) % 1 for slip in slips} | {0}) for axis in (0, 1)]
            self.assertEqual(len(found), many[0] * many[1])
            self.assertEqual(sum(number(row[1]) for row in found), 1)
            for whole, share, size in found:
                self.assertEqual(check_slips(job, whole), whole)
                self.assertEqual(size, sizes[whole])
                self.assertGreater(number(share), 0)
            for axis in (0, 1):
                for plate in range(len(job)):  # the slips are the mean of the corners, too
                    self.assertEqual(sum(number(row[1]) * row[0][plate][axis][0] for row in found),
                                     number(slips[plate][axis]))
            self.assertEqual(sum(number(row[1]) * row[2] for row in found), number(area_at(job, slips, region, kind)))


class TestExtents(unittest.TestCase):
    def test_told_values(self):
        region = [[2, 0], (3, 0), (6, 0)]
        found = leaves_alone(self, greatest_area, EXAMPLE, region, "bare")
        self.assertIsInstance(found, Extent)
        self.assertEqual((found.size, found.slips), (1, (LEFT, LEFT)))
        all_tuples(self, found.slips)
        self.assertEqual(least_area(EXAMPLE, region, "bare"), Extent(0, (LEFT, STILL)))
        self.assertEqual(greatest_area(EXAMPLE, region, ("alone", 0)), Extent(1, (LEFT, RIGHT)))
        self.assertEqual(greatest_area(EXAMPLE, (), "bare"), Extent(0, (LEFT, LEFT)))

    def test_equal(self):
        one = Extent(1, (LEFT, LEFT))
        self.assertTrue(one == Extent(1, (LEFT, LEFT)))
        self.assertFalse(one == Extent(2, (LEFT, LEFT)))
        self.assertTrue(one != Extent(1, (LEFT, STILL)))
        self.assertFalse(one == (1, (LEFT, LEFT)))

    def test_all_slips(self):
        draws = Draws(425)
        for job in drawn_jobs(426, 40):
            region = drawn_region(draws, job, 6)
            kind = draws.one_of(all_kinds(job))
            sizes = plain_sizes(job, region, kind)
            most, least = max(size for _, size in sizes), min(size for _, size in sizes)
            first = [next(slips for slips, size in sizes if size == wanted) for wanted in (most, least)]
            self.assertEqual(greatest_area(job, region, kind), Extent(most, first[0]))
            self.assertEqual(least_area(job, region, kind), Extent(least, first[1]))
            for _ in range(5):
                area = number(area_at(job, drawn_slips(draws, job), region, kind))
                self.assertTrue(least <= area <= most)
            for slips, size in sizes:
                self.assertEqual(greatest_fault(job, region, kind, Extent(size, slips)),
                                 None if size == most else "greater")
                self.assertEqual(least_fault(job, region, kind, Extent(size, slips)),
                                 None if size == least else "lesser")

    def test_never_bare(self):
        draws = Draws(427)
        for job in drawn_jobs(428, 60):
            region = drawn_region(draws, job, 3)
            self.assertEqual(isinstance(never_bare(job, region), Deep), greatest_area(job, region, "bare").size == 0)

    def test_jobs_seen_otherwise(self):
        draws = Draws(429)
        for job in drawn_jobs(430, 20, width=3, height=2):
            region = check_region(drawn_region(draws, job, 4))
            kind = draws.one_of(all_kinds(job))
            slips = drawn_slips(draws, job)
            area = area_at(job, slips, region, kind)
            bounds = greatest_area(job, region, kind).size, least_area(job, region, kind).size
            seen = [(job.mirrored(axis), mirrored_slips(slips, axis),
                     [(2 - x, y) if axis == 0 else (x, 1 - y) for x, y in region]) for axis in (0, 1)]
            seen.append((job.turned(), turned_slips(slips), [(1 - y, x) for x, y in region]))
            for other, moved, cells in seen:
                self.assertEqual(area_at(other, moved, cells, kind), area)
                self.assertEqual((greatest_area(other, cells, kind).size, least_area(other, cells, kind).size), bounds)
            finer = [(2 * x + i, 2 * y + j) for x, y in region for i in (0, 1) for j in (0, 1)]
            self.assertEqual(number(area_at(job.finer(2), finer_slips(slips, 2), finer, kind)), 4 * number(area))
            self.assertEqual(greatest_area(job.finer(2), finer, kind).size, 4 * bounds[0])
            self.assertEqual(least_area(job.finer(2), finer, kind).size, 4 * bounds[1])

    def test_judges(self):
        region = [(2, 0), (3, 0), (6, 0)]
        still = (STILL, STILL)
        for fault in (greatest_fault, least_fault):
            for slips in (None, (), (STILL,), (STILL, HALF), (STILL, ((2, 1), ZERO)), (STILL, ((1, 2), (0, 1))),
                          (STILL, ((True, 1), ZERO))):
                self.assertEqual(fault(EXAMPLE, region, "bare", Extent(0, slips)), "slips")
            for size in (1, ZERO, False, None, "0", 0.0):
                self.assertEqual(fault(EXAMPLE, region, "bare", Extent(size, still)), "size")
        self.assertEqual(greatest_fault(EXAMPLE, region, "bare", Extent(0, still)), "greater")
        self.assertIsNone(greatest_fault(EXAMPLE, region, "bare", Extent(1, (RIGHT, RIGHT))))
        self.assertEqual(least_fault(EXAMPLE, region, "bare", Extent(1, (LEFT, LEFT))), "lesser")
        self.assertIsNone(least_fault(EXAMPLE, region, ["alone", 0], Extent(0, still)))

    def test_errors(self):
        for call in (greatest_area, least_area):
            refuses(self, call, [EXAMPLE, [], "bare"], 1, BadRegion, BAD_REGIONS)
            refuses(self, call, [EXAMPLE, [], "bare"], 2, BadKind, BAD_KINDS)
        for call in (greatest_fault, least_fault, slips_of_area):
            refuses(self, call, [EXAMPLE, [], "bare", None], 1, BadRegion, BAD_REGIONS)
            refuses(self, call, [EXAMPLE, [], "bare", None], 2, BadKind, BAD_KINDS)


class TestSlipsOfArea(unittest.TestCase):
    def test_each_area_comes(self):
        draws = Draws(431)
        for job in drawn_jobs(432, 40):
            region = drawn_region(draws, job, 6)
            kind = draws.one_of(all_kinds(job))
            low, high = least_area(job, region, kind).size, greatest_area(job, region, kind).size
            areas = {Fraction(low), Fraction(high), Fraction(2 * low + 5 * high, 7), Fraction(low + high, 2)}
            areas |= {low + Fraction(k, 3) for k in range(3 * (high - low) + 1)}
            for area in areas:
                slips = slips_of_area(job, region, kind, as_ratio(area))
                self.assertEqual(check_slips(job, slips), slips)
                all_tuples(self, slips)
                self.assertEqual(number(area_at(job, slips, region, kind)), area)
            for area in (low - Fraction(1, 9), high + Fraction(1, 9), Fraction(high + 1), Fraction(-1), Fraction(99)):
                self.assertIsNone(slips_of_area(job, region, kind, as_ratio(area)))

    def test_two_plates_that_hide_one_another(self):
        job = Job(8, 1, [Plate([(3, 0)], False, (2, 0)), Plate([(2, 0), (4, 0)], True, (2, 0))])
        region = [(x, 0) for x in range(8)]
        for top in range(0, 8):
            slips = slips_of_area(job, region, ("alone", 0), as_ratio(Fraction(top, 7)))
            self.assertEqual(area_at(job, slips, region, ("alone", 0)), as_ratio(Fraction(top, 7)))

    def test_errors(self):
        wrong = [(thing, {}) for thing in BAD_RATIOS]
        refuses(self, slips_of_area, [EXAMPLE, [(0, 0)], "bare", ZERO], 3, BadArea, wrong)
        raises(self, BadArea, {}, slips_of_area, EXAMPLE, [], "bare", 0)
        self.assertEqual(leaves_alone(self, slips_of_area, EXAMPLE, [], "bare", ZERO), (LEFT, LEFT))


if __name__ == "__main__":
    unittest.main()
