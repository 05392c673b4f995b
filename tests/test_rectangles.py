import unittest
from fractions import Fraction

from neverbare.errors import BadKind, BadRectangle, BadSize, BadWindow
from neverbare.jobs import Job
from neverbare.leastjob import least_job
from neverbare.plates import Plate
from neverbare.rectangles import (
    Rectangle, greatest_rectangles, rectangle_fault, rectangle_for, whole_rectangle,
)
from neverbare.slips import check_slips
from neverbare.widest import widest_run
from tests.helping import (
    BAD_BANDS, BAD_KINDS, BAD_PLACES, BAD_RATIOS, BAD_SLIPS, BAD_WINDOWS, EXAMPLE, STILL, ZERO, Draws,
    all_kinds, all_tuples, as_ratio, drawn_job, drawn_jobs, drawn_slips, drawn_window, leaves_alone, number, plain_kind,
    plain_showing, raises, refuses, whole_showing, whole_slips,
)

HALF = ((1, 2), ZERO)
LEFT, RIGHT = ((-1, 1), ZERO), ((1, 1), ZERO)
ONE = (1, 1)


def plain_shows(job, slips, low, high, kind):
    """Whether each place between two corners is of the kind: by the middles between all lines."""
    cuts = []
    for axis in (0, 1):
        ends = (number(low[axis]), number(high[axis]))
        lines = {whole + number(slip[axis]) for slip in slips
                 for whole in range(ends[0].__floor__() - 3, ends[1].__floor__() + 4)}
        cuts.append(sorted({*ends, *[line for line in lines if ends[0] < line < ends[1]]}))
    return all(
        plain_kind(plain_showing(job, slips, (as_ratio((x + right) / 2), as_ratio((y + up) / 2))), kind)
        for x, right in zip(cuts[0], cuts[0][1:]) for y, up in zip(cuts[1], cuts[1][1:]))


def plain_sides(job, window, band, kind):
    """All couples (width, height) of rectangles of whole cells at all whole slips."""
    found = set()
    for slips in whole_slips(job):
        shown = {(x, y): plain_kind(whole_showing(job, slips, (x, y)), kind)
                 for x in range(*window) for y in range(*band)}
        for x, y in shown:
            for right in range(x + 1, window[1] + 1):
                for up in range(y + 1, band[1] + 1):
                    if (right - x, up - y) not in found:
                        if all(shown[i, j] for i in range(x, right) for j in range(y, up)):
                            found.add((right - x, up - y))
    return found


def greatest_sides(sides):
    return tuple(sorted(one for one in sides if not any(
        other != one and other[0] >= one[0] and other[1] >= one[1] for other in sides)))


def drawn_rectangle(draws, job, window, band):
    """Corners within window and band, at drawn slips."""
    corners = []
    for low, high in (window, band):
        ends = set()
        while len(ends) < 2:
            bottom = draws.one_of((1, 2, 3, 4))
            ends.add(low + Fraction(draws.below((high - low) * bottom + 1), bottom))
        corners.append(sorted(ends))
    places = [(as_ratio(corners[0][k]), as_ratio(corners[1][k])) for k in (0, 1)]
    return Rectangle(drawn_slips(draws, job), places[0], places[1])


class TestRectangle(unittest.TestCase):
    def test_kept_and_equal(self):
        one = Rectangle([1], [(1, 2), ZERO], [ONE, (1, 3)])
        self.assertEqual(list(vars(one).items()), [("slips", [1]), ("low", [(1, 2), ZERO]), ("high", [ONE, (1, 3)])])
        self.assertEqual(one.sides, ((1, 2), (1, 3)))
        self.assertTrue(one == Rectangle([1], [(1, 2), ZERO], [ONE, (1, 3)]))
        self.assertTrue(one != Rectangle([2], [(1, 2), ZERO], [ONE, (1, 3)]))
        self.assertFalse(one == Rectangle([1], [(1, 3), ZERO], [ONE, (1, 3)]))
        self.assertFalse(one == Rectangle([1], [(1, 2), ZERO], [ONE, (1, 4)]))
        self.assertFalse(one == 1)


class TestRectangleFault(unittest.TestCase):
    def fault(self, *parts):
        return rectangle_fault(EXAMPLE, [0, 7], [0, 1], "bare", Rectangle(*parts))

    def test_right(self):
        self.assertIsNone(self.fault((HALF, HALF), (ZERO, ZERO), ((5, 2), ONE)))
        self.assertIsNone(self.fault([[(1, 2), ZERO], HALF], [(1, 3), (1, 9)], [(2, 1), (1, 2)]))
        self.assertIsNone(rectangle_fault(EXAMPLE, (0, 7), (-3, 9), "bare",
                                          Rectangle((STILL, STILL), (ZERO, ONE), ((7, 1), (9, 1)))))

    def test_wrong(self):
        good = (HALF, HALF)
        for thing, _ in BAD_SLIPS:
            self.assertEqual(self.fault(thing, None, None), "slips")
        for thing, _ in BAD_PLACES:
            self.assertEqual(self.fault(good, thing, (ONE, ONE)), "corners")
            self.assertEqual(self.fault(good, (ZERO, ZERO), thing), "corners")
        for low, high in (
            ((ZERO, ZERO), (ZERO, ONE)), ((ZERO, ZERO), (ONE, ZERO)), ((ONE, ZERO), ((1, 2), ONE)),
            (((-1, 9), ZERO), (ONE, ONE)), ((ZERO, (-1, 9)), (ONE, ONE)), ((ZERO, ZERO), ((64, 9), ONE)),
            ((ZERO, ZERO), (ONE, (10, 9))),
        ):
            self.assertEqual(self.fault(good, low, high), "corners")
        for low, high in (((ZERO, ZERO), ((13, 5), ONE)), (((5, 2), ZERO), ((7, 1), ONE)), (((3, 1), ZERO), ((4, 1), ONE))):
            self.assertEqual(self.fault(good, low, high), "shown")

    def test_drawn_rectangles(self):
        draws = Draws(531)
        words = set()
        for _ in range(300):
            job = drawn_job(draws, bounds=((1, 1), (1, 0), (0, 1), (2, 1)))
            window, band = drawn_window(draws, job.width), drawn_window(draws, job.height)
            rectangle = drawn_rectangle(draws, job, window, band)
            for kind in all_kinds(job):
                shows = plain_shows(job, rectangle.slips, rectangle.low, rectangle.high, kind)
                word = rectangle_fault(job, window, band, kind, rectangle)
                self.assertEqual(word, None if shows else "shown")
                words.add(word)
                if not shows:
                    raises(self, BadRectangle, {"what": "shown"}, whole_rectangle, job, window, band, kind, rectangle)
                    continue
                found = whole_rectangle(job, window, band, kind, rectangle)
                self.check_whole(job, window, band, kind, found)
                for side, least in zip(found.sides, rectangle.sides):
                    self.assertGreaterEqual(number(side), number(least))
        self.assertEqual(words, {None, "shown"})

    def check_whole(self, job, window, band, kind, found):
        self.assertIsInstance(found, Rectangle)
        self.assertIsNone(rectangle_fault(job, window, band, kind, found))
        self.assertEqual(check_slips(job, found.slips), found.slips)
        all_tuples(self, (found.slips, found.low, found.high))
        for slip in (*found.slips, found.low, found.high):
            self.assertEqual([ratio[1] for ratio in slip], [1, 1])

    def test_errors(self):
        for call, more in ((rectangle_fault, [None]), (whole_rectangle, [None]), (greatest_rectangles, []),
                           (rectangle_for, [ONE, ONE])):
            good = [EXAMPLE, (0, 7), (0, 1), "bare", *more]
            refuses(self, call, good, 1, BadWindow, BAD_WINDOWS)
            refuses(self, call, good, 2, BadWindow, BAD_BANDS)
            refuses(self, call, good, 3, BadKind, BAD_KINDS)
        for what, rectangle in (("slips", Rectangle((), None, None)), ("corners", Rectangle((STILL, STILL), None, None)),
                                ("shown", Rectangle((STILL, STILL), (ZERO, ZERO), ((7, 1), ONE)))):
            raises(self, BadRectangle, {"what": what}, whole_rectangle, EXAMPLE, (0, 7), (0, 1), "bare", rectangle)
        good = [EXAMPLE, (0, 7), (0, 1), "bare", ONE, ONE]
        sizes = [(thing, {"size": thing}) for thing in (*BAD_RATIOS, ZERO, (-1, 2))]
        refuses(self, rectangle_for, good, 4, BadSize, sizes)
        refuses(self, rectangle_for, good, 5, BadSize, sizes)


class TestWholeRectangle(unittest.TestCase):
    def test_told_values(self):
        found = leaves_alone(self, whole_rectangle, EXAMPLE, [0, 7], [0, 1], "bare",
                             Rectangle((HALF, HALF), (ZERO, ZERO), ((5, 2), ONE)))
        self.assertEqual(found, Rectangle((RIGHT, RIGHT), (ZERO, ZERO), ((3, 1), ONE)))
        small = whole_rectangle(EXAMPLE, (0, 7), (0, 1), "bare", Rectangle((HALF, HALF), (ONE, ZERO), ((5, 4), (1, 2))))
        self.assertGreaterEqual(number(small.sides[0]), 1)


class TestGreatestRectangles(unittest.TestCase):
    def test_told_values(self):
        self.assertEqual(leaves_alone(self, greatest_rectangles, EXAMPLE, [0, 7], [0, 1], "bare"), ((3, 1),))
        all_tuples(self, greatest_rectangles(EXAMPLE, [0, 7], [0, 1], "bare"))
        self.assertEqual(greatest_rectangles(EXAMPLE, (0, 7), (0, 3), "bare"), ((3, 3), (7, 2)))
        self.assertEqual(greatest_rectangles(EXAMPLE, (0, 7), (0, 1), "mixed"), ())
        self.assertEqual(greatest_rectangles(EXAMPLE, (-20, 20), (-20, 20), "bare"), ((23, 40), (40, 20)))
        corner = Job(3, 3, [Plate([(0, 0), (1, 0), (2, 0), (0, 1), (0, 2)], False, (2, 2))])
        self.assertEqual(greatest_rectangles(corner, (-2, 5), (-2, 5), ("alone", 0)), ((1, 3), (3, 1)))

    def test_all_slips(self):
        draws = Draws(532)
        for job in drawn_jobs(533, 100):
            window, band = drawn_window(draws, job.width), drawn_window(draws, job.height)
            kind = draws.one_of(all_kinds(job))
            sides = plain_sides(job, window, band, kind)
            found = greatest_rectangles(job, window, band, kind)
            self.assertEqual(found, greatest_sides(sides))
            for width in range(1, window[1] - window[0] + 2):
                for height in range(1, band[1] - band[0] + 2):
                    one = rectangle_for(job, window, band, kind, (width, 1), (2 * height - 1, 2))
                    self.assertEqual(one is None, (width, height) not in sides)
                    if one is not None:
                        TestRectangleFault.check_whole(self, job, window, band, kind, one)
                        self.assertGreaterEqual(number(one.sides[0]), width)
                        self.assertGreaterEqual(number(one.sides[1]), height)
            rectangle = drawn_rectangle(draws, job, window, band)
            if plain_shows(job, rectangle.slips, rectangle.low, rectangle.high, kind):
                self.assertTrue(any(number(rectangle.sides[0]) <= width and number(rectangle.sides[1]) <= height
                                    for width, height in found))

    def test_runs_and_jobs_seen_otherwise(self):
        draws = Draws(534)
        for job in drawn_jobs(535, 40, width=3, height=2):
            kind = draws.one_of(all_kinds(job))
            found = greatest_rectangles(job, (0, 3), (0, 2), kind)
            run = widest_run(job, 0, (0, 3), (0, 2), kind)
            self.assertEqual(0 if run is None else run.length[0], max([width for width, _ in found], default=0))
            for other in (least_job(job), job.mirrored(0), job.mirrored(1)):
                self.assertEqual(greatest_rectangles(other, (0, 3), (0, 2), kind), found)
            turned = tuple(sorted((height, width) for width, height in found))
            self.assertEqual(greatest_rectangles(job.turned(), (0, 2), (0, 3), kind), turned)
            finer = tuple((2 * width, 2 * height) for width, height in found)
            self.assertEqual(greatest_rectangles(job.finer(2), (0, 6), (0, 4), kind), finer)


class TestRectangleFor(unittest.TestCase):
    def test_told_values(self):
        found = leaves_alone(self, rectangle_for, EXAMPLE, [0, 7], [0, 1], "bare", (5, 2), (1, 9))
        self.assertEqual(found, Rectangle((RIGHT, RIGHT), (ZERO, ZERO), ((3, 1), ONE)))
        for width, height in (((10, 3), ONE), (ONE, (10, 9)), ((999, 1), ONE), (ONE, (10 ** 299, 1)), ((8, 1), ONE)):
            self.assertIsNone(rectangle_for(EXAMPLE, (0, 7), (0, 1), "bare", width, height))


if __name__ == "__main__":
    unittest.main()
