import unittest

from neverbare.alike import looks_alike, unlike_fault
from neverbare.areas import greatest_area
from neverbare.errors import NotLike
from neverbare.jobs import Job
from neverbare.leastjob import alike_jobs, count_alike, least_job
from neverbare.places import showings_at
from neverbare.plates import Plate
from neverbare.shows import shown_at
from neverbare.slips import check_slips
from neverbare.unlike import Unlike
from tests.helping import (
    BAD_PLACES, BAD_SLIPS, EXAMPLE, ODD_THINGS, STILL, ZERO, Draws, all_tuples, cells_about, drawn_jobs, drawn_place,
    drawn_slips, leaves_alone, on_no_line, raises,
)
from tests.test_leastjob import like_jobs, looks

LESS = EXAMPLE.without_ink(0, (3, 0))
LEFT, RIGHT = ((-1, 1), ZERO), ((1, 1), ZERO)
PLACE = ((5, 2), (1, 2))


class TestLooksAlike(unittest.TestCase):
    def test_example(self):
        self.assertIsNone(leaves_alone(self, looks_alike, EXAMPLE, least_job(EXAMPLE)))
        found = looks_alike(EXAMPLE, LESS)
        self.assertIsInstance(found, Unlike)
        self.assertEqual(found, Unlike((LEFT, RIGHT), PLACE, (0,), ()))
        all_tuples(self, (found.slips, found.place, found.showing, found.other))

    def test_all_whole_slips(self):
        draws = Draws(471)
        for job in drawn_jobs(472, 80):
            own = looks(job)
            for other in like_jobs(draws, job, 4):
                found = looks_alike(job, other)
                self.assertEqual(found is None, looks(other) == own)
                if found is not None:
                    self.assertIsNone(unlike_fault(job, other, found))
                    self.assertEqual(check_slips(job, found.slips), found.slips)
                    self.assertTrue(all(ratio[1] == 1 for slip in found.slips for ratio in slip))
                    self.assertEqual([ratio[1] for ratio in found.place], [2, 2])
                else:
                    slips, place = drawn_slips(draws, job), drawn_place(draws, job)
                    if on_no_line(job, slips, place):
                        self.assertEqual(shown_at(job, slips, place), shown_at(other, slips, place))

    def test_jobs_that_look_alike_answer_alike(self):
        for job in drawn_jobs(473, 40):
            if count_alike(job) <= 16:
                for other in alike_jobs(job):
                    self.assertIsNone(looks_alike(job, other))
                    self.assertEqual(least_job(other), least_job(job))
                    for cell in cells_about(job)[::3]:
                        self.assertEqual([row[0] for row in showings_at(job, cell)],
                                         [row[0] for row in showings_at(other, cell)])
                    self.assertEqual(greatest_area(job, job.field[:3], "mixed").size,
                                     greatest_area(other, job.field[:3], "mixed").size)

    def test_errors(self):
        hiding = EXAMPLE.with_hiding(0, True)
        for what, other in (("field", Job(7, 2, EXAMPLE.plates)), ("many", Job(7, 1, EXAMPLE.plates[:1])),
                            ("hiding", hiding.with_bound(0, (0, 0))), ("bound", EXAMPLE.with_bound(0, (1, 1)))):
            raises(self, NotLike, {"what": what}, looks_alike, EXAMPLE, other)
            raises(self, NotLike, {"what": what}, unlike_fault, EXAMPLE, other, None)


class TestUnlikeFault(unittest.TestCase):
    def fault(self, *parts):
        return unlike_fault(EXAMPLE, LESS, Unlike(*parts))

    def test_right(self):
        self.assertIsNone(self.fault((LEFT, RIGHT), PLACE, (0,), ()))
        slips = (STILL, ((1, 2), ZERO))
        bare = EXAMPLE.without_ink(0, (2, 0))
        self.assertIsNone(unlike_fault(EXAMPLE, bare, Unlike(slips, ((9, 4), (1, 7)), (0,), ())))

    def test_wrong(self):
        good = (LEFT, RIGHT)
        for thing, _ in BAD_SLIPS:
            self.assertEqual(self.fault(thing, None, None, None), "slips")
        for thing, _ in BAD_PLACES:
            self.assertEqual(self.fault(good, thing, None, None), "place")
        for place in (((2, 1), (1, 2)), ((5, 2), ZERO)):
            self.assertEqual(self.fault(good, place, None, None), "line")
        self.assertEqual(self.fault((STILL, ((1, 2), ZERO)), ((3, 1), (1, 2)), None, None), "line")
        for showing in ((), (1,), (0, 1), (False,), 0, *ODD_THINGS):
            self.assertEqual(self.fault(good, PLACE, showing, None), "showing")
        for other in ((0,), (1,), *ODD_THINGS):
            self.assertEqual(self.fault(good, PLACE, (0,), other), "other")
        self.assertEqual(self.fault((STILL, STILL), PLACE, (1,), (1,)), "alike")
        self.assertEqual(self.fault((STILL, STILL), ((25, 2), (1, 2)), (), ()), "alike")
        one = Job(2, 1, [Plate([(0, 0)]), Plate([(0, 0)]), Plate([])])
        unlike = Unlike((STILL,) * 3, ((1, 2), (1, 2)), (0, True), (0,))
        self.assertEqual(unlike_fault(one, one.without_ink(1, (0, 0)), unlike), "showing")


if __name__ == "__main__":
    unittest.main()
