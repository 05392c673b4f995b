import unittest
from fractions import Fraction

from neverbare.errors import BadAxis, BadCell, BadJob, BadPlate, BadSize, HasInk, NoInk, NoPlate
from neverbare.jobs import Job, check_plate
from neverbare.plates import Plate
from tests.helping import (
    ODD_THINGS, Draws, all_tuples, as_ratio, drawn_jobs, drawn_ratio, drawn_slips, leaves_alone,
    plain_on, plain_showing, raises,
)

INK = Plate([(0, 0), (2, 1)], True, (1, 0))
FREE = Plate([(1, 1)], False, (0, 2))
TOP = Plate([], False, (2, 1))
JOB = Job(3, 2, [INK, FREE, TOP])


class TestJob(unittest.TestCase):
    def test_attributes(self):
        self.assertEqual((JOB.width, JOB.height), (3, 2))
        self.assertEqual(JOB.plates, (INK, FREE, TOP))
        self.assertIsInstance(JOB.plates, tuple)
        self.assertEqual(len(JOB), 3)
        self.assertEqual(len(Job(1, 1, (TOP,))), 1)
        self.assertEqual(list(JOB), [INK, FREE, TOP])
        self.assertEqual([plate for plate in JOB], [INK, FREE, TOP])
        self.assertEqual(Job(height=2, plates=(INK,), width=3), Job(3, 2, [INK]))

    def test_field(self):
        self.assertEqual(JOB.field, ((0, 0), (0, 1), (1, 0), (1, 1), (2, 0), (2, 1)))
        self.assertEqual(Job(8, 8, [TOP]).field, tuple([(x, y) for x in range(8) for y in range(8)]))
        all_tuples(self, JOB.field)

    def test_plates_are_not_kept_as_a_list(self):
        plates = [INK, FREE]
        job = leaves_alone(self, Job, 3, 2, plates)
        plates.append(TOP)
        plates[0] = TOP
        self.assertEqual(job.plates, (INK, FREE))

    def test_bad_width_and_height(self):
        for thing in (0, 9, -1, *ODD_THINGS):
            raises(self, BadJob, {"index": 0, "what": "width"}, Job, thing, 2, [INK])
            raises(self, BadJob, {"index": 0, "what": "width"}, Job, thing, None, None)
            raises(self, BadJob, {"index": 0, "what": "height"}, Job, 3, thing, [INK])
            raises(self, BadJob, {"index": 0, "what": "height"}, Job, 3, thing, None)

    def test_many(self):
        for thing in ([], (), [TOP] * 4, [None] * 4, TOP, {0: TOP}, *ODD_THINGS):
            raises(self, BadJob, {"index": 0, "what": "many"}, Job, 3, 2, thing)
        self.assertEqual(len(Job(3, 2, [TOP] * 3)), 3)

    def test_plate_and_cell(self):
        for thing in (*ODD_THINGS, JOB, ()):
            raises(self, BadJob, {"index": 1, "what": "plate"}, Job, 3, 2, [INK, thing, Plate([(7, 7)])])
        raises(self, BadJob, {"index": 0, "what": "cell"}, Job, 3, 2, [Plate([(3, 0)]), None])
        raises(self, BadJob, {"index": 2, "what": "cell"}, Job, 3, 2, [INK, FREE, Plate([(0, 2)])])
        raises(self, BadJob, {"index": 1, "what": "cell"}, Job, 3, 2, [INK, Plate([(0, 0), (3, 1)]), None])
        self.assertEqual(len(Job(8, 8, [Plate([(7, 7)])])), 1)

    def test_equality(self):
        self.assertTrue(JOB == Job(3, 2, (INK, FREE, TOP)))
        self.assertFalse(JOB != Job(3, 2, (Plate([(2, 1), (0, 0)], True, (1, 0)), FREE, TOP)))
        for other in (Job(4, 2, JOB.plates), Job(3, 3, JOB.plates), Job(3, 2, (INK, TOP, FREE)),
                      Job(3, 2, (INK, FREE)), JOB.plates, None):
            self.assertFalse(JOB == other)
            self.assertTrue(JOB != other)


class TestCheckPlate(unittest.TestCase):
    def test_numbers(self):
        self.assertEqual([check_plate(JOB, plate) for plate in (0, 1, 2)], [0, 1, 2])

    def test_errors(self):
        for thing in (-1, 3, (0,), *ODD_THINGS):
            raises(self, NoPlate, {"plate": thing}, check_plate, JOB, thing)


class TestOneThingChanged(unittest.TestCase):
    def test_with_ink(self):
        self.assertEqual(JOB.with_ink(0, (1, 0)),
                         Job(3, 2, [Plate([(0, 0), (1, 0), (2, 1)], True, (1, 0)), FREE, TOP]))
        self.assertEqual(JOB.with_ink(2, [2, 1]),
                         Job(3, 2, [INK, FREE, Plate([(2, 1)], False, (2, 1))]))

    def test_without_ink(self):
        self.assertEqual(JOB.without_ink(0, [2, 1]),
                         Job(3, 2, [Plate([(0, 0)], True, (1, 0)), FREE, TOP]))
        self.assertEqual(JOB.without_ink(1, (1, 1)), Job(3, 2, [INK, Plate([], False, (0, 2)), TOP]))

    def test_errors_of_ink(self):
        for call in (JOB.with_ink, JOB.without_ink):
            for thing in (-1, 3, *ODD_THINGS):
                raises(self, NoPlate, {"plate": thing}, call, thing, None)
            for thing in ((3, 0), (0, 2), (-1, 0), (0, -1), [3, 0], (True, 0), (0,), *ODD_THINGS):
                raises(self, BadCell, {"cell": thing}, call, 0, thing)
        raises(self, HasInk, {"plate": 0, "cell": (2, 1)}, JOB.with_ink, 0, (2, 1))
        raises(self, HasInk, {"plate": 0, "cell": (2, 1)}, JOB.with_ink, 0, [2, 1])
        raises(self, NoInk, {"plate": 1, "cell": (0, 0)}, JOB.without_ink, 1, (0, 0))

    def test_with_bound(self):
        self.assertEqual(JOB.with_bound(1, [2, 1]),
                         Job(3, 2, [INK, Plate([(1, 1)], False, (2, 1)), TOP]))
        self.assertEqual(JOB.with_bound(0, (1, 0)), JOB)
        raises(self, NoPlate, {"plate": 3}, JOB.with_bound, 3, None)
        raises(self, NoPlate, {"plate": True}, JOB.with_bound, True, None)
        for thing in ((3, 0), (0,), *ODD_THINGS):
            raises(self, BadPlate, {"what": "bound"}, JOB.with_bound, 0, thing)

    def test_with_hiding(self):
        self.assertEqual(JOB.with_hiding(1, True), Job(3, 2, [INK, Plate([(1, 1)], True, (0, 2)), TOP]))
        self.assertEqual(JOB.with_hiding(0, False),
                         Job(3, 2, [Plate([(0, 0), (2, 1)], False, (1, 0)), FREE, TOP]))
        self.assertEqual(JOB.with_hiding(0, True), JOB)
        raises(self, NoPlate, {"plate": -1}, JOB.with_hiding, -1, None)
        for thing in (0, 1, None, "hiding"):
            raises(self, BadPlate, {"what": "hiding"}, JOB.with_hiding, 0, thing)

    def test_exchanged(self):
        self.assertEqual(JOB.exchanged(0), Job(3, 2, [FREE, INK, TOP]))
        self.assertEqual(JOB.exchanged(1), Job(3, 2, [INK, TOP, FREE]))
        for thing in (2, 3, -1, *ODD_THINGS):
            raises(self, NoPlate, {"plate": thing}, JOB.exchanged, thing)
        raises(self, NoPlate, {"plate": 0}, Job(1, 1, [TOP]).exchanged, 0)

    def test_the_job_itself_is_unchanged(self):
        for call in (lambda: JOB.with_ink(0, (1, 0)), lambda: JOB.without_ink(0, (0, 0)),
                     lambda: JOB.with_bound(0, (2, 2)), lambda: JOB.with_hiding(0, False),
                     lambda: JOB.exchanged(0), lambda: JOB.mirrored(0), lambda: JOB.turned()):
            self.assertIsInstance(call(), Job)
            self.assertEqual(JOB, Job(3, 2, [Plate([(0, 0), (2, 1)], True, (1, 0)), FREE, TOP]))


class TestSeenOtherwise(unittest.TestCase):
    def test_mirrored(self):
        self.assertEqual(JOB.mirrored(0), Job(3, 2, [
            Plate([(2, 0), (0, 1)], True, (1, 0)), Plate([(1, 1)], False, (0, 2)), TOP]))
        self.assertEqual(JOB.mirrored(1), Job(3, 2, [
            Plate([(0, 1), (2, 0)], True, (1, 0)), Plate([(1, 0)], False, (0, 2)), TOP]))
        for thing in (2, -1, *ODD_THINGS):
            raises(self, BadAxis, {"axis": thing}, JOB.mirrored, thing)

    def test_turned(self):
        self.assertEqual(JOB.turned(), Job(2, 3, [
            Plate([(1, 0), (0, 2)], True, (0, 1)), Plate([(0, 1)], False, (2, 0)), Plate([], False, (1, 2))]))

    def test_four_turns_and_two_mirrors(self):
        for job in drawn_jobs(5, 20):
            self.assertEqual(job.turned().turned().turned().turned(), job)
            self.assertEqual(job.mirrored(0).mirrored(0), job)
            self.assertEqual(job.turned().turned(), job.mirrored(0).mirrored(1))

    def test_finer(self):
        job = Job(2, 1, [Plate([(1, 0)], True, (1, 0)), Plate([], False, (0, 1))])
        self.assertEqual(job.finer(2), Job(4, 2, [
            Plate([(2, 0), (2, 1), (3, 0), (3, 1)], True, (2, 0)), Plate([], False, (0, 2))]))
        still = Job(2, 1, [Plate([(0, 0)], False, (0, 0))])
        self.assertEqual(still.finer(3), Job(6, 3, [
            Plate([(x, y) for x in range(3) for y in range(3)], False, (0, 0))]))

    def test_errors_of_finer(self):
        for thing in (0, 1, 4, -2, *ODD_THINGS):
            raises(self, BadSize, {"size": thing}, Job(8, 8, [TOP]).finer, thing)
        moving = Plate([], False, (0, 2))
        raises(self, BadJob, {"index": 0, "what": "width"}, Job(5, 5, [moving]).finer, 2)
        raises(self, BadJob, {"index": 0, "what": "width"}, Job(3, 1, [moving]).finer, 3)
        raises(self, BadJob, {"index": 0, "what": "height"}, Job(4, 5, [moving]).finer, 2)
        raises(self, BadJob, {"index": 0, "what": "height"}, Job(2, 3, [moving]).finer, 3)
        raises(self, BadPlate, {"what": "bound"}, Job(4, 4, [Plate([], False, (0, 0)), moving]).finer, 2)
        raises(self, BadPlate, {"what": "bound"}, Job(2, 2, [Plate([], False, (1, 0))]).finer, 3)
        self.assertEqual(Job(4, 4, [Plate([], False, (1, 1))]).finer(2), Job(8, 8, [Plate([], False, (2, 2))]))

    def test_corresponding_places_show_the_same(self):
        draws = Draws(21)
        for job in drawn_jobs(22, 40):
            slips = drawn_slips(draws, job)
            place = (as_ratio(Fraction(*drawn_ratio(draws, 5)) + Fraction(1, 7)),
                     as_ratio(Fraction(*drawn_ratio(draws, 5)) + Fraction(1, 7)))
            x, y = Fraction(*place[0]), Fraction(*place[1])
            for plate in range(len(job)):
                self.assertIsNotNone(plain_on(job.plates[plate], slips[plate], place))
            shown = plain_showing(job, slips, place)
            left = tuple([(as_ratio(-Fraction(*u)), v) for u, v in slips])
            down = tuple([(u, as_ratio(-Fraction(*v))) for u, v in slips])
            round_ = tuple([(as_ratio(-Fraction(*v)), u) for u, v in slips])
            self.assertEqual(shown, plain_showing(
                job.mirrored(0), left, (as_ratio(job.width - x), place[1])))
            self.assertEqual(shown, plain_showing(
                job.mirrored(1), down, (place[0], as_ratio(job.height - y))))
            self.assertEqual(shown, plain_showing(
                job.turned(), round_, (as_ratio(job.height - y), place[0])))
            twice = tuple([(as_ratio(2 * Fraction(*u)), as_ratio(2 * Fraction(*v))) for u, v in slips])
            spot = (as_ratio(2 * x), as_ratio(2 * y))
            self.assertEqual(shown, plain_showing(job.finer(2), twice, spot))


if __name__ == "__main__":
    unittest.main()
