"""Texts of jobs, slips and cells, and number words."""

from neverbare.errors import BadText
from neverbare.jobs import Job
from neverbare.plates import Plate
from neverbare.ratios import is_whole, make_ratio, ratio_text


def _is_figures(word):
    return word != "" and all([sign in "0123456789" for sign in word])


def read_number(word):
    """The ratio that a number word tells, or None if the word is none."""
    if len(word) > 300:
        return None
    top, slash, bottom = word.partition("/")
    if not _is_figures(top.removeprefix("-")):
        return None
    if slash == "":
        bottom = "1"
    if not _is_figures(bottom) or int(bottom) == 0:
        return None
    ratio = make_ratio(int(top), int(bottom))
    # A number has other spellings too; the one that ratio_text gives is the only one that is let.
    if ratio_text(ratio) != word:
        return None
    return ratio


def read_whole(word, low, high):
    """The whole number from low to high that a whole word tells, or None if the word is none."""
    ratio = read_number(word)
    if ratio is None or ratio[1] != 1 or not is_whole(ratio[0], low, high):
        return None
    return ratio[0]


def _plate_rows(job, plate):
    """The rows of one plate."""
    ink = "hiding" if plate.hiding else "clear"
    rows = [f"plate {ink} {plate.bound[0]} {plate.bound[1]}"]
    for y in range(job.height):
        rows.append("".join(["#" if (x, y) in plate.cells else "." for x in range(job.width)]))
    return rows


def job_text(job):
    """The text of a job."""
    rows = [f"job {job.width} {job.height}"]
    for plate in job.plates:
        rows.extend(_plate_rows(job, plate))
    return "\n".join(rows)


def _read_numbers(row, words, low, high):
    """The two whole numbers of a head."""
    numbers = [read_whole(word, low, high) for word in words]
    if None in numbers:
        raise BadText(row, "number")
    return tuple(numbers)


def _read_job_head(text):
    """Width and height, of row 0."""
    words = text.split(" ")
    if words[0] != "job":
        raise BadText(0, "word")
    if len(words) != 3:
        raise BadText(0, "size")
    return _read_numbers(0, words[1:], 1, 8)


def _read_plate_head(row, text):
    """Whether a plate is hiding, and its bound."""
    words = text.split(" ")
    if words[0] != "plate" or len(words) < 2 or words[1] not in ("clear", "hiding"):
        raise BadText(row, "word")
    if len(words) != 4:
        raise BadText(row, "size")
    return (words[1] == "hiding", _read_numbers(row, words[2:], 0, 2))


def _read_field(rows, first, width, height):
    """The field rows of one plate, from row first on."""
    for row in range(first, first + height):
        if row == len(rows):
            raise BadText(row, "lacking")
        if len(rows[row]) != width or not all([sign in "#." for sign in rows[row]]):
            raise BadText(row, "row")
    return rows[first:first + height]


def parse_job(text):
    """The job that a text tells."""
    rows = text.split("\n")
    width, height = _read_job_head(rows[0])
    plates = []
    row = 1
    while row < len(rows):
        if len(plates) == 3:
            raise BadText(row, "many")
        hiding, bound = _read_plate_head(row, rows[row])
        field = _read_field(rows, row + 1, width, height)
        plates.append(Plate.from_rows(field, hiding, bound))
        row = row + 1 + height
    if len(plates) == 0:
        raise BadText(len(rows), "lacking")
    return Job(width, height, plates)


def slips_text(slips):
    """The text of slips."""
    return " ".join([f"{ratio_text(slip[0])},{ratio_text(slip[1])}" for slip in slips])


def parse_slips(text):
    """The slips that a text tells."""
    slips = []
    for place, word in enumerate(text.split(" ")):
        parts = word.split(",")
        if len(parts) != 2:
            raise BadText(place, "size")
        numbers = [read_number(part) for part in parts]
        if None in numbers:
            raise BadText(place, "number")
        slips.append(tuple(numbers))
    return tuple(slips)


def cells_text(cells):
    """The text of a sequence of cells."""
    if len(cells) == 0:
        return "none"
    return " ".join([f"{cell[0]},{cell[1]}" for cell in cells])


def parse_cells(text):
    """The cells that a text tells, in the order of the text."""
    if text == "none":
        return ()
    cells = []
    for place, word in enumerate(text.split(" ")):
        parts = word.split(",")
        if len(parts) != 2:
            raise BadText(place, "size")
        cells.append(_read_numbers(place, parts, -20, 20))
    return tuple(cells)
