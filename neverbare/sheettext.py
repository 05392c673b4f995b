"""Texts of sheets."""

from neverbare.errors import BadText
from neverbare.jobtext import read_number
from neverbare.ratios import ratio_text
from neverbare.sheets import Sheet


def _showing_text(showing):
    if len(showing) == 0:
        return "-"
    return "+".join([str(plate) for plate in showing])


def sheet_text(sheet):
    """The text of a sheet."""
    rows = [
        " ".join(["xs"] + [ratio_text(line) for line in sheet.xs]),
        " ".join(["ys"] + [ratio_text(line) for line in sheet.ys]),
    ]
    for row in sheet.rows:
        rows.append(" ".join(["row"] + [_showing_text(showing) for showing in row]))
    return "\n".join(rows)


def _read_lines(row, words):
    """The lines that the words of a row tell."""
    lines = [read_number(word) for word in words]
    if None in lines:
        raise BadText(row, "number")
    return lines


def _read_showing(row, word):
    """The showing that a word tells."""
    if word == "-":
        return ()
    parts = word.split("+")
    if not all([part in ("0", "1", "2") for part in parts]):
        raise BadText(row, "showing")
    if not all([parts[k] < parts[k + 1] for k in range(len(parts) - 1)]):
        raise BadText(row, "showing")
    return tuple([int(part) for part in parts])


def parse_sheet(text):
    """The sheet that a text tells."""
    lines = []
    rows = []
    for row, line in enumerate(text.split("\n")):
        words = line.split(" ")
        head = ("xs", "ys", "row")[min(row, 2)]
        if words[0] != head:
            raise BadText(row, "word")
        if row < 2:
            lines.append(_read_lines(row, words[1:]))
        else:
            rows.append([_read_showing(row, word) for word in words[1:]])
    if len(lines) < 2:
        raise BadText(len(lines), "lacking")
    return Sheet(lines[0], lines[1], rows)
