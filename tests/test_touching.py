import unittest

from neverbare.errors import BadSlips, NoPlate, SamePlate, TooMany
from neverbare.jobs import Job
from neverbare.plates import Plate
from neverbare.samples import apart_samples
from neverbare.sheets import sheet_of
from neverbare.together import Together, always_together
from neverbare.touching import may_touch, must_touch, touch_at
from tests.helping import (
    BAD_PLATES, BAD_SLIPS, EXAMPLE, STILL, ZERO, Draws, all_tuples, drawn_jobs, drawn_slips, leaves_alone, raises,
    refuses, whole_slips,
)
from tests.test_together import MANY, TWO, some_jobs

LEFT, RIGHT = ((-1, 1), ZERO), ((1, 1), ZERO)
HALF = ((1, 2), ZERO)


def pairs_of(job):
    return [(one, other) for one in range(len(job)) for other in range(len(job)) if one != other]


def plain_touch(job, slips, one, other):
    """The couple of rectangles as [7.8] says it, by looking at all rectangles in order."""
    sheet = sheet_of(job, slips)
    shown = {(i, j): sheet.rows[j][i] for j in range(max(len(sheet.ys) - 1, 0)) for i in range(len(sheet.xs) - 1)}
    for index in sorted(shown):
        near = [(i, j) for i, j in sorted(shown) if abs(i - index[0]) + abs(j - index[1]) <= 1]
        meet = [second for second in near if other in shown[second]]
        if one in shown[index] and meet:
            return index, meet[0]
    return None


class TestTouchAt(unittest.TestCase):
    def test_told_values(self):
        self.assertEqual(leaves_alone(self, touch_at, TWO, [STILL, STILL], 0, 1), ((1, 0), (2, 0)))
        self.assertEqual(touch_at(TWO, (STILL, STILL), 1, 0), ((2, 0), (1, 0)))
        self.assertIsNone(touch_at(TWO, (LEFT, STILL), 0, 1))
        self.assertEqual(touch_at(TWO, (HALF, STILL), 0, 1), ((1, 0), (2, 0)))
        self.assertEqual(touch_at(TWO, (RIGHT, STILL), 0, 1), ((0, 0), (1, 0)))
        self.assertEqual(touch_at(TWO, (RIGHT, LEFT), 0, 1), ((0, 0), (0, 0)))
        all_tuples(self, touch_at(TWO, (RIGHT, LEFT), 0, 1))
        corner = Job(2, 2, [Plate([(0, 0)]), Plate([(1, 1)])])
        self.assertIsNone(touch_at(corner, (STILL, STILL), 0, 1))
        self.assertIsNone(touch_at(Job(1, 1, [Plate([]), Plate([])]), (STILL, STILL), 0, 1))

    def test_what_is_hidden_does_not_touch(self):
        job = Job(2, 1, [Plate([(0, 0)]), Plate([(0, 0), (1, 0)], True)])
        self.assertIsNone(touch_at(job, (STILL, STILL), 0, 1))
        self.assertEqual(touch_at(job, (LEFT, STILL), 0, 1), ((0, 0), (1, 0)))

    def test_drawn_slips(self):
        draws = Draws(591)
        for job in drawn_jobs(592, 120):
            slips = drawn_slips(draws, job)
            for one, other in pairs_of(job):
                found = touch_at(job, slips, one, other)
                self.assertEqual(found, plain_touch(job, slips, one, other))
                self.assertEqual(found is None, touch_at(job, slips, other, one) is None)

    def test_errors(self):
        good = [EXAMPLE, (STILL, STILL), 0, 1]
        refuses(self, touch_at, good, 1, BadSlips, BAD_SLIPS)
        refuses(self, touch_at, good, 2, NoPlate, BAD_PLATES)
        refuses(self, touch_at, good, 3, NoPlate, BAD_PLATES)
        raises(self, SamePlate, {"plate": 1}, touch_at, EXAMPLE, (STILL, STILL), 1, 1)


class TestMayAndMustTouch(unittest.TestCase):
    def test_told_values(self):
        samples = apart_samples(TWO)
        self.assertEqual(leaves_alone(self, must_touch, TWO, 0, 1), samples[0])
        self.assertEqual(may_touch(TWO, 0, 1), next(
            slips for slips in samples if touch_at(TWO, slips, 0, 1) is not None))
        all_tuples(self, (must_touch(TWO, 0, 1), may_touch(TWO, 0, 1)))
        far = Job(8, 1, [Plate([(0, 0)], False, (1, 0)), Plate([(7, 0)], False, (1, 0))])
        self.assertIsNone(may_touch(far, 0, 1))
        self.assertEqual(must_touch(far, 1, 0), apart_samples(far)[0])
        near = Job(3, 1, [Plate([(0, 0), (1, 0), (2, 0)], False, (1, 0)), Plate([(1, 0)], False, (1, 0))])
        self.assertIsNone(must_touch(near, 0, 1))

    def test_all_samples_and_slips(self):
        draws = Draws(593)
        for job in some_jobs(594, 60):
            samples = apart_samples(job)
            for one, other in pairs_of(job):
                meet = [slips for slips in samples if plain_touch(job, slips, one, other) is not None]
                part = [slips for slips in samples if slips not in meet]
                self.assertEqual(may_touch(job, one, other), meet[0] if meet else None)
                self.assertEqual(must_touch(job, one, other), part[0] if part else None)
                for slips in whole_slips(job)[::5] + [drawn_slips(draws, job)]:
                    if touch_at(job, slips, one, other) is None:
                        self.assertTrue(part)
                    else:
                        self.assertTrue(meet)

    def test_groups_that_must_touch_hang_together(self):
        met = 0
        for job in some_jobs(595, 200):
            for one, other in pairs_of(job):
                if one < other and must_touch(job, one, other) is None:
                    if all(isinstance(always_together(job, (plate,)), Together) for plate in (one, other)):
                        self.assertIsInstance(always_together(job, (one, other)), Together)
                        met += 1
        self.assertGreater(met, 5)

    def test_errors(self):
        for call in (may_touch, must_touch):
            refuses(self, call, [EXAMPLE, 0, 1], 1, NoPlate, BAD_PLATES)
            refuses(self, call, [EXAMPLE, 0, 1], 2, NoPlate, BAD_PLATES)
            raises(self, SamePlate, {"plate": 0}, call, EXAMPLE, 0, 0)
            raises(self, SamePlate, {"plate": 2}, call, MANY, 2, 2)
            raises(self, TooMany, {"most": 400}, call, MANY, 2, 0)


if __name__ == "__main__":
    unittest.main()
