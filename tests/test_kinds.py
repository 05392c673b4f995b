import unittest

from neverbare.errors import BadKind
from neverbare.jobs import Job
from neverbare.kinds import check_kind, is_of_kind
from neverbare.plates import Plate
from tests.helping import ODD_THINGS, all_tuples, leaves_alone, raises

JOB = Job(1, 1, [Plate([]), Plate([])])


class TestCheckKind(unittest.TestCase):
    def test_kinds(self):
        self.assertEqual(check_kind(JOB, "bare"), "bare")
        self.assertEqual(check_kind(JOB, "mixed"), "mixed")
        for word in ("alone", "shows"):
            for plate in (0, 1):
                self.assertEqual(check_kind(JOB, (word, plate)), (word, plate))
                found = leaves_alone(self, check_kind, JOB, [word, plate])
                self.assertEqual(found, (word, plate))
                all_tuples(self, found)

    def test_no_kinds(self):
        odd = ("alone", "shows", "", "Bare", ("bare",), ["mixed"], ("alone",), ("alone", 0, 1), ("alone", 2),
               ("shows", -1), ("shows", True), ("alone", False), ("alone", None), ("alone", (0,)), ("bare", 0),
               ("mixed", 0), (0, "alone"), (["alone"], 0), (None, 0), (), ("alone", 0.0), {"alone": 0}, ("alone", "0"))
        for thing in (*odd, *ODD_THINGS):
            raises(self, BadKind, {}, check_kind, JOB, thing)

    def test_only_plates_of_the_job(self):
        three = Job(1, 1, [Plate([])] * 3)
        self.assertEqual(check_kind(three, ("alone", 2)), ("alone", 2))
        raises(self, BadKind, {}, check_kind, three, ("alone", 3))


class TestIsOfKind(unittest.TestCase):
    def test_all(self):
        showings = [(), (0,), (1,), (2,), (0, 1), (0, 2), (1, 2), (0, 1, 2)]
        for showing in showings:
            self.assertIs(is_of_kind(showing, "bare"), showing == ())
            self.assertIs(is_of_kind(showing, "mixed"), len(showing) >= 2)
            for plate in range(3):
                for kind in (("alone", plate), ["alone", plate]):
                    self.assertIs(is_of_kind(showing, kind), showing == (plate,))
                for kind in (("shows", plate), ["shows", plate]):
                    self.assertIs(is_of_kind(showing, kind), plate in showing)
            self.assertIs(is_of_kind(list(showing), ("alone", 1)), showing == (1,))


if __name__ == "__main__":
    unittest.main()
