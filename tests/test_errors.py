import unittest

from neverbare import errors

LISTED = """
BadRatio(what), BadCells(index, what), BadAxis(axis), BadReach(), BadPlate(what),
BadJob(index, what), NoPlate(plate), BadCell(cell), HasInk(plate, cell), NoInk(plate, cell),
BadSize(size), BadText(row, what), BadSlips(index, what), BadPlace(), OnLine(plate), BadOn(),
BadSheet(what), OnCut(axis, index), BadKind(), BadSheetCell(), BadRegion(index),
BadSlipRow(index, what), BadStand(index, what), BadBounds(index, what), BadCorners(index, what),
BadSpot(), BadSpan(axis), BadArea(), NotLike(what), BadOrder(what), BadWindow(what), BadAcross(),
BadRun(what), BadPush(what), BadRectangle(what), BadGroup(), TooMany(most), SamePlate(plate),
BadLot(index, what), BadChoice(), BadLosses(), BadMany(), StillBare(cell), BadBar(index),
NoShowing(), BadLook(index, what), NoSlips(plate), BadPlaces(), BadDrift(what), CannotStay(),
CanStay(), BadSeen(), BadStep(step), BadPlay(index, what), BadHistory(index), CannotBe(index),
BadDoubt(), BadChange(index, what), BadWish(index), NoChange(number)
"""


def read_listed():
    rows = []
    for part in LISTED.replace("\n", " ").split("),"):
        name, names = part.strip().rstrip(")").split("(")
        rows.append((name, [word.strip() for word in names.split(",") if word.strip() != ""]))
    return rows


class TestErrors(unittest.TestCase):
    def test_base_stands_directly_under_value_error(self):
        self.assertEqual(errors.PrintError.__bases__, (ValueError,))

    def test_each_error_stands_directly_under_the_base(self):
        for name, _ in read_listed():
            self.assertEqual(vars(errors)[name].__bases__, (errors.PrintError,), name)

    def test_attributes_bear_their_names_in_their_order(self):
        for name, attributes in read_listed():
            things = [object() for _ in attributes]
            error = vars(errors)[name](*things)
            self.assertEqual(list(vars(error)), attributes, name)
            for attribute, thing in zip(attributes, things):
                self.assertIs(vars(error)[attribute], thing)

    def test_attributes_may_be_told_by_name(self):
        for name, attributes in read_listed():
            error = vars(errors)[name](**{attribute: attribute for attribute in attributes})
            self.assertEqual(vars(error), {attribute: attribute for attribute in attributes})

    def test_no_argument_is_left_out(self):
        for name, attributes in read_listed():
            if attributes:
                with self.assertRaises(TypeError):
                    vars(errors)[name]()

    def test_there_are_just_these(self):
        found = [name for name, thing in vars(errors).items() if isinstance(thing, type)]
        self.assertEqual(sorted(found), sorted([name for name, _ in read_listed()] + ["PrintError"]))
        self.assertEqual(len(read_listed()), 60)

    def test_each_is_caught_by_the_base(self):
        for name, attributes in read_listed():
            with self.assertRaises(errors.PrintError):
                raise vars(errors)[name](*attributes)


if __name__ == "__main__":
    unittest.main()
