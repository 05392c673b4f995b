import unittest

from neverbare.changes import check_changes, job_after
from neverbare.errors import BadChange
from neverbare.jobs import Job
from neverbare.plates import Plate
from tests.helping import EXAMPLE, ODD_THINGS, Draws, all_tuples, drawn_jobs, leaves_alone, raises

ALL = (("ink", 0, (0, 0)), ("wipe", 1, (6, 0)), ("bound", 1, (2, 0)), ("hide", 0), ("clear", 1), ("exchange", 0))


def drawn_change(draws, job):
    word = draws.one_of(("ink", "wipe", "bound", "hide", "clear", "exchange" if len(job) > 1 else "ink"))
    plate = draws.below(len(job) - (word == "exchange"))
    if word in ("ink", "wipe"):
        return word, plate, draws.one_of(job.field)
    if word == "bound":
        return word, plate, (draws.below(3), draws.below(3))
    return word, plate


def plain_after(job, changes):
    """The job behind changes, made on plain lists."""
    plates = [[set(plate.cells), plate.hiding, plate.bound] for plate in job]
    for change in changes:
        own = plates[change[1]]
        if change[0] == "ink":
            own[0].add(tuple(change[2]))
        elif change[0] == "wipe":
            own[0].discard(tuple(change[2]))
        elif change[0] == "bound":
            own[2] = change[2]
        elif change[0] == "exchange":
            plates[change[1]:change[1] + 2] = plates[change[1]:change[1] + 2][::-1]
        else:
            own[1] = change[0] == "hide"
    return Job(job.width, job.height, [Plate(sorted(cells), hiding, bound) for cells, hiding, bound in plates])


def may_not_change_places(one, other):
    """Two changes about one ink, one bound or one hiding that would not do the same."""
    if one[1] != other[1]:
        return False
    words = {one[0], other[0]}
    if words == {"ink", "wipe"}:
        return one[2] == other[2]
    return words == {"bound"} and one[2] != other[2] or words == {"hide", "clear"}


class TestCheckChanges(unittest.TestCase):
    def test_values(self):
        found = leaves_alone(self, check_changes, EXAMPLE, [["ink", 0, [0, 0]], ["wipe", 1, (6, 0)], ("bound", 1, [2, 0]),
                                                            ["hide", 0], ["clear", 1], ["exchange", 0]])
        self.assertEqual(found, ALL)
        all_tuples(self, found)
        self.assertEqual(check_changes(EXAMPLE, ()), ())
        self.assertEqual(check_changes(EXAMPLE, ALL[3:4] * 100), ALL[3:4] * 100)

    def test_errors(self):
        for call in (check_changes, job_after):
            for thing in ([ALL[0]] * 101, {0: ALL[0]}, *ODD_THINGS):
                raises(self, BadChange, {"index": 0, "what": "many"}, call, EXAMPLE, thing)

            def wrong(what, change):
                raises(self, BadChange, {"index": 1, "what": what}, call, EXAMPLE, [ALL[5], change, None])
            for change in ((), ("Ink", 0, (0, 0)), ("",), ("ink",), ("ink", 0), ("ink", 0, (0, 0), 0), ("bound", 0),
                           ("wipe", 0), ("hide",), ("hide", 0, True), ("clear", 0, 0), ("exchange",), ("exchange", 0, 1),
                           (["hide"], 0), ({}, 0), (True, 0), ("hide ", 0), "ink", {0: "hide", 1: 0}, *ODD_THINGS):
                wrong("change", change)
            for plate in (2, -1, True, False, None, (0,), "0", 0.0, (0, 1)):
                for change in (("ink", plate, None), ("wipe", plate, None), ("bound", plate, None), ("hide", plate),
                               ("clear", plate), ("exchange", plate)):
                    wrong("plate", change)
            wrong("plate", ("exchange", 1))
            for word in ("ink", "wipe"):
                for cell in ((7, 0), (0, 1), (-1, 0), (0, -1), (0,), (0, 0, 0), (True, 0), 0, *ODD_THINGS):
                    wrong("cell", (word, 1, cell))
            for bound in ((3, 0), (0, -1), (1,), (1, 1, 1), (True, 0), *ODD_THINGS):
                wrong("bound", ("bound", 1, bound))

    def test_a_job_of_one_plate_has_no_exchange(self):
        job = Job(1, 1, [Plate([])])
        raises(self, BadChange, {"index": 0, "what": "plate"}, check_changes, job, [("exchange", 0)])


class TestJobAfter(unittest.TestCase):
    def test_told_values(self):
        found = leaves_alone(self, job_after, EXAMPLE, [list(change) for change in ALL])
        self.assertEqual(found, plain_after(EXAMPLE, ALL))
        self.assertEqual(found.plates[0].bound, (2, 0))
        self.assertEqual(job_after(EXAMPLE, ()), EXAMPLE)

    def test_what_finds_its_work_done(self):
        for change in (("ink", 0, (2, 0)), ("wipe", 0, (0, 0)), ("bound", 0, (1, 0)), ("hide", 1), ("clear", 0)):
            self.assertEqual(job_after(EXAMPLE, [change]), EXAMPLE)

    def test_plate_numbers_are_those_of_the_moment(self):
        found = job_after(EXAMPLE, [("exchange", 0), ("ink", 0, (0, 0)), ("exchange", 0)])
        self.assertEqual(found, EXAMPLE.with_ink(1, (0, 0)))
        self.assertEqual(job_after(EXAMPLE, [("exchange", 0), ("clear", 0)]).plates[0].hiding, False)

    def test_drawn_changes(self):
        draws = Draws(931)
        for job in drawn_jobs(932, 150):
            changes = [drawn_change(draws, job) for _ in range(draws.below(12))]
            self.assertEqual(job_after(job, changes), plain_after(job, changes))
            if len(job) > 1:
                twice = [("exchange", draws.below(len(job) - 1))] * 2
                self.assertEqual(job_after(job, [*changes[:3], *twice, *changes[3:]]), job_after(job, changes))

    def test_neighbours_that_may_change_places(self):
        draws = Draws(933)
        met = 0
        for job in drawn_jobs(934, 600):
            one, other = drawn_change(draws, job), drawn_change(draws, job)
            if draws.below(2):
                other = (other[0], one[1], *other[2:])
            if "exchange" in (one[0], other[0]) or may_not_change_places(one, other):
                continue
            met += 1
            self.assertEqual(job_after(job, [one, other]), job_after(job, [other, one]))
        self.assertGreater(met, 100)


if __name__ == "__main__":
    unittest.main()
