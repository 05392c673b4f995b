import unittest
from itertools import product

from neverbare.errors import BadLook, NoShowing
from neverbare.jobs import Job
from neverbare.looks import check_looks, told_by
from neverbare.plates import Plate
from tests.helping import (
    BAD_PLACES, EXAMPLE, ODD_THINGS, SIX, all_tuples, leaves_alone, raises,
)

# The job and the look of [9.16].
SEEN = Job(3, 1, [Plate([(0, 0), (1, 0)], False, (1, 0)), Plate([(1, 0), (2, 0)], True, (1, 0))])
LOOK = (((3, 2), (1, 2)), (0,))
PLACE = ((1, 3), (1, 2))
NO_SHOWINGS = ((1, 0), (0, 0), (2,), (-1,), (True,), (0, False), (0.0,), {0: 1}, {0}, *ODD_THINGS)


def of_hiding(*hiding):
    return Job(1, 1, [Plate([(0, 0)], hides, (1, 1)) for hides in hiding])


def plain_told(job, showing):
    """What a showing tells of each plate, by all choices of plates that are on; None without."""
    choices = []
    for on in product((False, True), repeat=len(job)):
        shown = []
        for plate in reversed(range(len(job))):
            if on[plate]:
                shown.insert(0, plate)
                if job.plates[plate].hiding:
                    break
        if tuple(shown) == tuple(showing):
            choices.append(on)
    if not choices:
        return None
    return tuple(row[0] if len(set(row)) == 1 else None for row in zip(*choices))


class TestToldBy(unittest.TestCase):
    def test_told_values(self):
        self.assertEqual(told_by(SEEN, (0,)), (True, False))
        self.assertEqual(leaves_alone(self, told_by, SEEN, [1]), (None, True))
        self.assertEqual(told_by(SEEN, ()), (False, False))
        self.assertEqual(told_by(SIX, [0, 1]), (True, True))
        self.assertEqual(told_by(of_hiding(False, True, False), (1, 2)), (None, True, True))
        self.assertEqual(told_by(of_hiding(True, False, False), (0, 2)), (True, False, True))

    def test_all_jobs_and_showings(self):
        for many in (1, 2, 3):
            for hiding in product((False, True), repeat=many):
                job = of_hiding(*hiding)
                for on in product((False, True), repeat=many):
                    showing = tuple(plate for plate in range(many) if on[plate])
                    wanted = plain_told(job, showing)
                    self.assertEqual(wanted is None, any(hiding[plate] for plate in showing[1:]))
                    if wanted is None:
                        raises(self, NoShowing, {}, told_by, job, showing)
                    else:
                        found = told_by(job, showing)
                        self.assertEqual(found, wanted)
                        self.assertIsInstance(found, tuple)
                        self.assertTrue(all(entry is None or isinstance(entry, bool) for entry in found))

    def test_errors(self):
        for thing in NO_SHOWINGS:
            raises(self, NoShowing, {}, told_by, EXAMPLE, thing)
        raises(self, NoShowing, {}, told_by, SEEN, [0, 1])


class TestCheckLooks(unittest.TestCase):
    def test_values(self):
        found = leaves_alone(self, check_looks, SEEN, [[[(3, 2), (1, 2)], [0]], LOOK])
        self.assertEqual(found, (LOOK, LOOK))
        all_tuples(self, found)
        self.assertEqual(check_looks(SEEN, []), ())
        contrary = [(PLACE, ()), (PLACE, (0,)), (PLACE, (1,))]
        self.assertEqual(check_looks(SEEN, contrary), tuple(contrary))
        self.assertEqual(check_looks(SEEN, [LOOK] * 6), (LOOK,) * 6)

    def test_whole_coordinates_are_let_where_all_plates_slip(self):
        self.assertEqual(len(check_looks(SEEN, [(((1, 1), (1, 2)), ())])), 1)
        turned = SEEN.turned()
        self.assertEqual(len(check_looks(turned, [(((1, 2), (-7, 1)), ())])), 1)
        raises(self, BadLook, {"index": 0, "what": "line"}, check_looks, turned, [(((0, 1), (1, 2)), ())])

    def test_errors(self):
        for thing in ([LOOK] * 7, {0: LOOK}, *ODD_THINGS):
            raises(self, BadLook, {"index": 0, "what": "many"}, check_looks, SEEN, thing)
        for thing in ((), (PLACE,), (PLACE, (0,), 0), {0: 1, 1: 2}, *ODD_THINGS):
            raises(self, BadLook, {"index": 1, "what": "look"}, check_looks, SEEN, [LOOK, thing, None])
        for thing, _ in BAD_PLACES:
            raises(self, BadLook, {"index": 2, "what": "place"}, check_looks, SEEN, [LOOK, LOOK, (thing, None), None])
        for line in ((0, 1), (1, 1), (-30, 1)):
            raises(self, BadLook, {"index": 1, "what": "line"}, check_looks, SEEN, [LOOK, [((1, 2), line), None], None])
        for thing in (*NO_SHOWINGS, (0, 1)):
            raises(self, BadLook, {"index": 1, "what": "showing"}, check_looks, SEEN, [LOOK, [PLACE, thing], None])

    def test_one_plate_without_a_slip_is_enough(self):
        """Also if it has no ink."""
        job = Job(3, 1, [Plate([(0, 0)], False, (1, 1)), Plate([], False, (0, 1))])
        raises(self, BadLook, {"index": 0, "what": "line"}, check_looks, job, [(((2, 1), (1, 2)), ())])
        self.assertEqual(len(check_looks(job, [(((1, 2), (2, 1)), ())])), 1)


if __name__ == "__main__":
    unittest.main()
