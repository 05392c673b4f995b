"""Jobs: a field and its plates in the order of printing."""

from neverbare.cells import check_axis, is_cell
from neverbare.errors import BadCell, BadJob, BadSize, HasInk, NoInk, NoPlate
from neverbare.plates import Plate
from neverbare.ratios import is_sequence, is_whole


def check_plate(job, plate):
    """The number of a plate of the job."""
    if not is_whole(plate, 0, len(job.plates) - 1):
        raise NoPlate(plate)
    return plate


def _check_plates(width, height, plates):
    if not is_sequence(plates, 1, 3):
        raise BadJob(0, "many")
    for index, plate in enumerate(plates):
        if not isinstance(plate, Plate):
            raise BadJob(index, "plate")
        if not all([x < width and y < height for x, y in plate.cells]):
            raise BadJob(index, "cell")


def check_field_cell(job, plate, cell):
    """The cell of the field as a tuple; the plate number is checked before it."""
    check_plate(job, plate)
    if not is_cell(cell):
        raise BadCell(cell)
    x, y = cell
    if not is_whole(x, 0, job.width - 1) or not is_whole(y, 0, job.height - 1):
        raise BadCell(cell)
    return (x, y)


def with_all_cells(job, rows):
    """The job with other ink of all its plates: a sequence of cells for each plate."""
    plates = [_with_cells(plate, cells) for plate, cells in zip(job.plates, rows)]
    return Job(job.width, job.height, plates)


def _with_plate(job, number, plate):
    """The job with another plate of this number."""
    plates = list(job.plates)
    plates[number] = plate
    return Job(job.width, job.height, plates)


def _with_cells(plate, cells):
    """The plate with other ink."""
    return Plate(cells, plate.hiding, plate.bound)


def _finer_cells(cells, size):
    """The cells that come of each cell being parted into size * size ones."""
    return [
        (x * size + right, y * size + up)
        for x, y in cells for right in range(size) for up in range(size)
    ]


class Job:
    """A field of width times height cells and 1 to 3 plates; plate 0 is printed first."""

    def __init__(self, width, height, plates):
        if not is_whole(width, 1, 8):
            raise BadJob(0, "width")
        if not is_whole(height, 1, 8):
            raise BadJob(0, "height")
        _check_plates(width, height, plates)
        self.width = width
        self.height = height
        self.plates = tuple(plates)

    def __eq__(self, other):
        return (isinstance(other, Job) and self.width == other.width
                and self.height == other.height and self.plates == other.plates)

    def __len__(self):
        return len(self.plates)

    def __iter__(self):
        return iter(self.plates)

    @property
    def field(self):
        """All cells of the field, ascending."""
        return tuple([(x, y) for x in range(self.width) for y in range(self.height)])

    def with_ink(self, plate, cell):
        """The job with one ink more."""
        ink = check_field_cell(self, plate, cell)
        old = self.plates[plate]
        if ink in old.cells:
            raise HasInk(plate, ink)
        return _with_plate(self, plate, _with_cells(old, old.cells + (ink,)))

    def without_ink(self, plate, cell):
        """The job with one ink less."""
        ink = check_field_cell(self, plate, cell)
        old = self.plates[plate]
        if ink not in old.cells:
            raise NoInk(plate, ink)
        return _with_plate(self, plate, _with_cells(old, [one for one in old.cells if one != ink]))

    def with_bound(self, plate, bound):
        """The job with another bound of one plate."""
        old = self.plates[check_plate(self, plate)]
        return _with_plate(self, plate, Plate(old.cells, old.hiding, bound))

    def with_hiding(self, plate, hiding):
        """The job with one plate hiding or clear."""
        old = self.plates[check_plate(self, plate)]
        return _with_plate(self, plate, Plate(old.cells, hiding, old.bound))

    def exchanged(self, plate):
        """The job with this plate and the next one exchanged in the order of printing."""
        if not is_whole(plate, 0, len(self.plates) - 2):
            raise NoPlate(plate)
        plates = list(self.plates)
        plates[plate] = self.plates[plate + 1]
        plates[plate + 1] = self.plates[plate]
        return Job(self.width, self.height, plates)

    def mirrored(self, axis):
        """The job mirrored along x (0) or along y (1)."""
        plates = []
        if check_axis(axis) == 0:
            for plate in self.plates:
                plates.append(_with_cells(plate, [(self.width - 1 - x, y) for x, y in plate.cells]))
        else:
            for plate in self.plates:
                plates.append(_with_cells(plate, [(x, self.height - 1 - y) for x, y in plate.cells]))
        return Job(self.width, self.height, plates)

    def turned(self):
        """The job turned by a quarter."""
        plates = []
        for plate in self.plates:
            cells = [(self.height - 1 - y, x) for x, y in plate.cells]
            plates.append(Plate(cells, plate.hiding, (plate.bound[1], plate.bound[0])))
        return Job(self.height, self.width, plates)

    def finer(self, size):
        """The job with each cell parted into size * size cells."""
        if not is_whole(size, 2, 3):
            raise BadSize(size)
        if self.width * size > 8:
            raise BadJob(0, "width")
        if self.height * size > 8:
            raise BadJob(0, "height")
        plates = []
        for plate in self.plates:
            # A finer plate fits here, so if it refuses anything, it is its bound.
            bound = (plate.bound[0] * size, plate.bound[1] * size)
            plates.append(Plate(_finer_cells(plate.cells, size), plate.hiding, bound))
        return Job(self.width * size, self.height * size, plates)
