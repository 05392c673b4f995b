import unittest
from fractions import Fraction

from neverbare.errors import BadLook, BadSlips, NoSlips
from neverbare.jobs import Job
from neverbare.looks import told_by
from neverbare.plates import Plate
from neverbare.rooms import Rooms, does_fit, find_slips, rooms_for
from neverbare.sheets import sheet_at, sheet_of
from tests.helping import (
    BAD_PLACES, BAD_SLIPS, ODD_THINGS, SIX, STILL, ZERO, Draws, all_tuples, drawn_jobs, drawn_place, drawn_slips,
    leaves_alone, number, on_no_line, plain_on, plain_showing, raises, refuses,
)
from tests.test_looks import LOOK, SEEN

BOUNDS = ((0, 0), (1, 0), (0, 1), (1, 1), (2, 1))


def bad_looks(job_place=((1, 2), (1, 2))):
    """Wrong looks of a job of two plates with the bounds (1, 0), and the attributes of the error."""
    good = (job_place, ())
    return ([([good] * 7, {"index": 0, "what": "many"})]
            + [(thing, {"index": 0, "what": "many"}) for thing in ODD_THINGS]
            + [([good, thing], {"index": 1, "what": "look"}) for thing in ODD_THINGS]
            + [([(thing, None)], {"index": 0, "what": "place"}) for thing, _ in BAD_PLACES]
            + [([good, good, (((1, 2), ZERO), None)], {"index": 2, "what": "line"})]
            + [([(job_place, thing), None], {"index": 0, "what": "showing"}) for thing in ODD_THINGS])


def drawn_looks(draws, job, many, slips=None):
    """Looks at drawn places: what they show at one choice of slips, or drawn showings."""
    found = []
    for _ in range(many):
        place = drawn_place(draws, job, (2, 3, 4, 5))
        if slips is not None:
            if on_no_line(job, slips, place):
                found.append((place, plain_showing(job, slips, place)))
        elif all(place[axis][1] > 1 or all(plate.bound[axis] > 0 for plate in job) for axis in (0, 1)):
            showing = (draws.below(len(job)),) if draws.below(3) else ()
            found.append((place, showing))
    return tuple(found)


def plain_fits(job, looks, slips):
    return all(on_no_line(job, slips, place) and plain_showing(job, slips, place) == showing
               for place, showing in looks)


def plain_rooms(job, looks, plate):
    """The rooms of one plate, as fractions: all cuts, and the middles asked."""
    told = job.plates[plate]
    sides = []
    for axis in (0, 1):
        bound = told.bound[axis]
        cuts = {Fraction(-bound), Fraction(bound)}
        for place, _ in looks:
            cuts |= {number(place[axis]) - whole for whole in range(-20, 21)
                     if abs(number(place[axis]) - whole) < bound}
        cuts = sorted(cuts)
        sides.append([(0, 0)] if bound == 0 else list(zip(cuts, cuts[1:])))
    found = []
    for u in sides[0]:
        for v in sides[1]:
            middle = [Fraction(low + high) / 2 for low, high in (u, v)]
            slip = [(ratio.numerator, ratio.denominator) for ratio in middle]
            entries = [(told_by(job, showing)[plate], plain_on(told, slip, place)) for place, showing in looks]
            if all(entry is None or entry == on for entry, on in entries):
                found.append((*u, *v))
    return found


def in_rooms(slip, rooms):
    u, v = number(slip[0]), number(slip[1])
    return any(number(room[0]) <= u <= number(room[1]) and number(room[2]) <= v <= number(room[3]) for room in rooms)


class TestDoesFit(unittest.TestCase):
    def test_told_values(self):
        half = ((1, 2), ZERO)
        self.assertTrue(leaves_alone(self, does_fit, SEEN, [LOOK], [STILL, ((3, 4), ZERO)]))
        self.assertFalse(does_fit(SEEN, [LOOK], (STILL, STILL)))
        self.assertFalse(does_fit(SEEN, [LOOK], (STILL, half)))  # the place lies on a line of plate 1
        self.assertFalse(does_fit(SEEN, [LOOK], (half, ((1, 1), ZERO))))
        self.assertTrue(does_fit(SEEN, (), (half, half)))
        self.assertFalse(does_fit(SEEN, [LOOK, (LOOK[0], ())], (STILL, ((3, 4), ZERO))))

    def test_as_told(self):
        draws = Draws(871)
        met = set()
        for job in drawn_jobs(872, 150, bounds=BOUNDS):
            seen = drawn_slips(draws, job)
            looks = drawn_looks(draws, job, draws.below(4), seen)
            for slips in (seen, *[drawn_slips(draws, job) for _ in range(4)]):
                found = does_fit(job, looks, slips)
                self.assertEqual(found, plain_fits(job, looks, slips))
                met.add(found)
            self.assertTrue(does_fit(job, looks, seen))
        self.assertEqual(met, {True, False})

    def test_looks_read_off_printed_sheets(self):
        draws = Draws(873)
        for job in drawn_jobs(874, 60, bounds=BOUNDS):
            slips = drawn_slips(draws, job)
            sheet = sheet_of(job, slips)
            places = [place for place in [drawn_place(draws, job) for _ in range(5)] if on_no_line(job, slips, place)]
            looks = [(place, sheet_at(sheet, place)) for place in places]
            self.assertTrue(does_fit(job, looks, slips))
            self.assertTrue(does_fit(job, looks, find_slips(job, looks)))
            rooms = rooms_for(job, looks)
            for slip, own in zip(slips, rooms.rows):
                self.assertTrue(in_rooms(slip, own))

    def test_errors(self):
        refuses(self, does_fit, [SEEN, [], ()], 1, BadLook, bad_looks())
        refuses(self, does_fit, [SEEN, [LOOK], ()], 2, BadSlips, BAD_SLIPS)


class TestRoomsFor(unittest.TestCase):
    def test_told_values(self):
        found = leaves_alone(self, rooms_for, SEEN, [[list(LOOK[0]), [0]]])
        self.assertIsInstance(found, Rooms)
        self.assertEqual(found.rows, (
            (((-1, 2), (1, 2), ZERO, ZERO), ((1, 2), (1, 1), ZERO, ZERO)), (((1, 2), (1, 1), ZERO, ZERO),)))
        all_tuples(self, found.rows)
        self.assertEqual(rooms_for(SEEN, ()).rows, ((((-1, 1), (1, 1), ZERO, ZERO),),) * 2)

    def test_a_result_keeps_what_it_is_given(self):
        rows = [[1]]
        self.assertIs(Rooms(rows).rows, rows)
        self.assertEqual(list(vars(Rooms(rows=rows))), ["rows"])

    def test_cuts_at_places_that_tell_nothing_of_a_plate(self):
        """The look at a hiding plate leaves the plate below open, but its line parts the room."""
        found = rooms_for(SEEN, [(((3, 2), (1, 2)), (1,))]).rows
        self.assertEqual(found[0], tuple(
            (low, high, ZERO, ZERO) for low, high in (((-1, 1), (-1, 2)), ((-1, 2), (1, 2)), ((1, 2), (1, 1)))))

    def test_no_cut_at_the_bounds_themselves(self):
        found = rooms_for(SEEN, [(((0, 1), (1, 2)), ())]).rows
        self.assertEqual(found[0], (((0, 1), (1, 1), ZERO, ZERO),))
        self.assertEqual(found[1], (((-1, 1), (0, 1), ZERO, ZERO), ((0, 1), (1, 1), ZERO, ZERO)))

    def test_rooms_as_told(self):
        draws = Draws(875)
        met = set()
        for job in drawn_jobs(876, 200, bounds=BOUNDS):
            slips = drawn_slips(draws, job) if draws.below(2) else None
            looks = drawn_looks(draws, job, draws.below(5), slips)
            wanted = [plain_rooms(job, looks, plate) for plate in range(len(job))]
            empty = [plate for plate, rooms in enumerate(wanted) if not rooms]
            if empty:
                raises(self, NoSlips, {"plate": empty[0]}, rooms_for, job, looks)
                self.assertIsNone(find_slips(job, looks))
                met.add(empty[0])
                continue
            found = rooms_for(job, looks).rows
            all_tuples(self, found)
            self.assertEqual([[tuple(number(ratio) for ratio in room) for room in rooms] for rooms in found], wanted)
            self.assertTrue(plain_fits(job, looks, find_slips(job, looks)))
        self.assertLessEqual({0, 1}, met)

    def test_slips_fit_exactly_if_all_lie_in_rooms(self):
        draws = Draws(877)
        met = 0
        for job in drawn_jobs(878, 80, bounds=BOUNDS):
            seen = drawn_slips(draws, job)
            looks = drawn_looks(draws, job, 1 + draws.below(3), seen)
            rooms = rooms_for(job, looks).rows
            for _ in range(20):
                slips = drawn_slips(draws, job)
                if all(on_no_line(job, slips, place) for place, _ in looks):
                    met += 1
                    self.assertEqual(plain_fits(job, looks, slips), all(
                        in_rooms(slip, own) for slip, own in zip(slips, rooms)))
        self.assertGreater(met, 300)

    def test_no_slips(self):
        wide = Job(3, 1, [Plate([], False, (1, 0)), Plate([(0, 0)], True, (1, 0))])
        raises(self, NoSlips, {"plate": 0}, rooms_for, wide, [(LOOK[0], (0,))])
        raises(self, NoSlips, {"plate": 0}, rooms_for, wide, [(((9, 2), (1, 2)), (1,)), (LOOK[0], (0,))])
        raises(self, NoSlips, {"plate": 1}, rooms_for, wide, [(((9, 2), (1, 2)), (1,))])
        # Each look alone leaves slips, both together do not.
        both = [(((1, 4), (1, 2)), (0,)), (((1, 4), (1, 2)), ())]
        for look in both:
            self.assertIsNotNone(find_slips(SIX, [look]))
        self.assertIsNone(leaves_alone(self, find_slips, SIX, both))
        raises(self, NoSlips, {"plate": 0}, rooms_for, SIX, both)

    def test_find_slips(self):
        found = leaves_alone(self, find_slips, SEEN, [[list(LOOK[0]), [0]]])
        self.assertTrue(does_fit(SEEN, [LOOK], found))
        all_tuples(self, found)
        self.assertTrue(does_fit(SEEN, (), find_slips(SEEN, ())))

    def test_jobs_seen_otherwise(self):
        """Mirrored along x, place (x, y) is (width - x, y), and slip (u, v) is (-u, v)."""
        draws = Draws(879)
        for job in drawn_jobs(880, 40, bounds=BOUNDS):
            looks = drawn_looks(draws, job, 3, drawn_slips(draws, job))
            moved = [(((job.width * x[1] - x[0], x[1]), y), showing) for (x, y), showing in looks]
            found = rooms_for(job.mirrored(0), moved).rows
            self.assertEqual([sorted((-number(room[1]), -number(room[0])) for room in rooms) for rooms in found],
                             [sorted((number(room[0]), number(room[1])) for room in rooms)
                              for rooms in rooms_for(job, looks).rows])

    def test_errors(self):
        for call in (rooms_for, find_slips):
            refuses(self, call, [SEEN, []], 1, BadLook, bad_looks())


if __name__ == "__main__":
    unittest.main()
