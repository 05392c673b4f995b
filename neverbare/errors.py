"""All errors of the package, those of all its parts."""


class PrintError(ValueError):
    """What all errors of the package stand under."""


class BadRatio(PrintError):
    """Refused by make_ratio or over: "top", "bottom" or "zero"."""
    def __init__(self, what):
        self.what = what


class BadCells(PrintError):
    """No cells: "many", or "cell" with the index of the first thing that is no cell."""
    def __init__(self, index, what):
        self.index = index
        self.what = what


class BadAxis(PrintError):
    """An axis that is neither 0 nor 1."""
    def __init__(self, axis):
        self.axis = axis


class BadReach(PrintError):
    """A reach that is no couple of whole numbers from 0 to 2."""


class BadPlate(PrintError):
    """Refused by a plate: "rows", "cells", "hiding" or "bound"."""
    def __init__(self, what):
        self.what = what


class BadJob(PrintError):
    """Refused by a job: "width", "height", "many", "plate" or "cell"."""
    def __init__(self, index, what):
        self.index = index
        self.what = what


class NoPlate(PrintError):
    """A thing that is no plate number of the job, or none that will do."""
    def __init__(self, plate):
        self.plate = plate


class BadCell(PrintError):
    """A thing that is no cell where one is due."""
    def __init__(self, cell):
        self.cell = cell


class HasInk(PrintError):
    """The plate already has this ink."""
    def __init__(self, plate, cell):
        self.plate = plate
        self.cell = cell


class NoInk(PrintError):
    """The plate does not have this ink."""
    def __init__(self, plate, cell):
        self.plate = plate
        self.cell = cell


class BadSize(PrintError):
    """A size that is not let."""
    def __init__(self, size):
        self.size = size


class BadText(PrintError):
    """A text that cannot be read, with the row or the word where it goes wrong."""
    def __init__(self, row, what):
        self.row = row
        self.what = what


class BadSlips(PrintError):
    """No slips of the job: "many", "slip" or "bound"."""
    def __init__(self, index, what):
        self.index = index
        self.what = what


class BadPlace(PrintError):
    """A thing that is no place."""


class OnLine(PrintError):
    """A place that lies on a line of this plate."""
    def __init__(self, plate):
        self.plate = plate


class BadOn(PrintError):
    """A thing that is no ascending sequence of plate numbers of the job."""


class BadSheet(PrintError):
    """Refused by a sheet: "xs", "ys" or "rows"."""
    def __init__(self, what):
        self.what = what


class OnCut(PrintError):
    """A place on the line of a sheet with this index along this axis."""
    def __init__(self, axis, index):
        self.axis = axis
        self.index = index


class BadKind(PrintError):
    """A thing that is no kind."""


class BadSheetCell(PrintError):
    """A thing that is no sheet cell."""


class BadRegion(PrintError):
    """A thing that is no region, with the index of the first thing that is no cell."""
    def __init__(self, index):
        self.index = index


class BadSlipRow(PrintError):
    """No row of slips: "many", "ratio" or "far"."""
    def __init__(self, index, what):
        self.index = index
        self.what = what


class BadStand(PrintError):
    """No stand: "many", "plate", "floor", "rank", "far", "gap" or "bound"."""
    def __init__(self, index, what):
        self.index = index
        self.what = what


class BadBounds(PrintError):
    """No bounds: "many" or "bound"."""
    def __init__(self, index, what):
        self.index = index
        self.what = what


class BadCorners(PrintError):
    """No corners of a stand: "many", "row" or "step"."""
    def __init__(self, index, what):
        self.index = index
        self.what = what


class BadSpot(PrintError):
    """A thing that is no spot."""


class BadSpan(PrintError):
    """A thing that is no span along this axis."""
    def __init__(self, axis):
        self.axis = axis


class BadArea(PrintError):
    """An area that is no ratio."""


class NotLike(PrintError):
    """Two jobs that are not comparable: "field", "many", "hiding" or "bound"."""
    def __init__(self, what):
        self.what = what


class BadOrder(PrintError):
    """No order of printing: "many" or "plate"."""
    def __init__(self, what):
        self.what = what


class BadWindow(PrintError):
    """A thing that is no "window" or no "band"."""
    def __init__(self, what):
        self.what = what


class BadAcross(PrintError):
    """A line that is told by no ratio."""


class BadRun(PrintError):
    """A run that is none, with the word of its judge."""
    def __init__(self, what):
        self.what = what


class BadPush(PrintError):
    """A push that is none: "part", "by" or "narrower"."""
    def __init__(self, what):
        self.what = what


class BadRectangle(PrintError):
    """A rectangle that is none, with the word of its judge."""
    def __init__(self, what):
        self.what = what


class BadGroup(PrintError):
    """A thing that is no group of plates."""


class TooMany(PrintError):
    """There is more than the most that is let."""
    def __init__(self, most):
        self.most = most


class SamePlate(PrintError):
    """Two unlike plates are due, and this one is told twice."""
    def __init__(self, plate):
        self.plate = plate


class BadLot(PrintError):
    """No lot: "many", "ink", "order", "inked" or "lacking"."""
    def __init__(self, index, what):
        self.index = index
        self.what = what


class BadChoice(PrintError):
    """A thing that is no choice of plates for the cells of a region."""


class BadLosses(PrintError):
    """A number of losses that is not let."""


class BadMany(PrintError):
    """A number of inks that is none."""


class StillBare(PrintError):
    """The region can be bare at this cell."""
    def __init__(self, cell):
        self.cell = cell


class BadBar(PrintError):
    """A thing that is no bar."""
    def __init__(self, index):
        self.index = index


class NoShowing(PrintError):
    """A thing that is no showing, or one that no choice of plates shows."""


class BadLook(PrintError):
    """No looks: "many", "look", "place", "line" or "showing"."""
    def __init__(self, index, what):
        self.index = index
        self.what = what


class NoSlips(PrintError):
    """No slips fit, for this plate has no room."""
    def __init__(self, plate):
        self.plate = plate


class BadPlaces(PrintError):
    """A thing that is no sequence of 1 to 4 places."""


class BadDrift(PrintError):
    """Refused by a drift: "bound", "low", "high", "every", "fuzz" or "grain"."""
    def __init__(self, what):
        self.what = what


class CannotStay(PrintError):
    """No way of correcting makes this drift stay."""


class CanStay(PrintError):
    """Some way of correcting makes this drift stay."""


class BadSeen(PrintError):
    """A thing that is seen and is no ratio."""


class BadStep(PrintError):
    """A thing that is no correction of the drift."""
    def __init__(self, step):
        self.step = step


class BadPlay(PrintError):
    """No play: "slip", "moves", "move", "errors" or "error"."""
    def __init__(self, index, what):
        self.index = index
        self.what = what


class BadHistory(PrintError):
    """A thing that is no history of the drift."""
    def __init__(self, index):
        self.index = index


class CannotBe(PrintError):
    """What is seen here cannot come behind what was before."""
    def __init__(self, index):
        self.index = index


class BadDoubt(PrintError):
    """A thing that is no doubt."""


class BadChange(PrintError):
    """No changes: "pool", "many", "change", "plate", "cell" or "bound"."""
    def __init__(self, index, what):
        self.index = index
        self.what = what


class BadWish(PrintError):
    """A thing that is no wish."""
    def __init__(self, index):
        self.index = index


class NoChange(PrintError):
    """No standing change has this number."""
    def __init__(self, number):
        self.number = number
