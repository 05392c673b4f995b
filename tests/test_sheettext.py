import unittest

from neverbare.errors import BadSheet, BadText
from neverbare.sheets import Sheet, sheet_of
from neverbare.sheettext import parse_sheet, sheet_text
from tests.helping import Draws, drawn_jobs, drawn_slips, raises

SHEET = Sheet(((-1, 2), (0, 1), (7, 3)), ((0, 1), (1, 1), (2, 1)), [[(), (0, 2)], [(0, 1, 2), (1,)]])
TEXT = "xs -1/2 0 7/3\nys 0 1 2\nrow - 0+2\nrow 0+1+2 1"
HEAD = "xs 0 1\nys 0 1\n"


class TestSheetText(unittest.TestCase):
    def test_text(self):
        self.assertEqual(sheet_text(SHEET), TEXT)
        self.assertEqual(sheet_text(Sheet((), (), ())), "xs\nys")

    def test_parse(self):
        self.assertEqual(parse_sheet(TEXT), SHEET)
        self.assertEqual(parse_sheet("xs\nys"), Sheet((), (), ()))

    def test_both_ways(self):
        draws = Draws(91)
        for job in drawn_jobs(92, 30):
            sheet = sheet_of(job, drawn_slips(draws, job))
            self.assertEqual(parse_sheet(sheet_text(sheet)), sheet)
        self.assertEqual(sheet_text(parse_sheet(TEXT)), TEXT)

    def test_word(self):
        for text in ("", "ys", "xs0 1", " xs", "Xs 0 1", "row"):
            raises(self, BadText, {"row": 0, "what": "word"}, parse_sheet, text)
        for row in ("", "xs", "row", "ys1", "Ys 0 1"):
            raises(self, BadText, {"row": 1, "what": "word"}, parse_sheet, "xs 0 1\n" + row)
        for row in ("", "ys", "rows -", "xs 0", "-", "Row -"):
            raises(self, BadText, {"row": 2, "what": "word"}, parse_sheet, HEAD + row)
            raises(self, BadText, {"row": 3, "what": "word"}, parse_sheet, HEAD + "row -\n" + row)

    def test_number(self):
        for word in ("", "x", "01", "2/4", "+1", "-0", "1/1", "-"):
            raises(self, BadText, {"row": 0, "what": "number"}, parse_sheet, "xs 0 " + word + " 5\nzs")
            raises(self, BadText, {"row": 1, "what": "number"}, parse_sheet, "xs 0 1\nys " + word + "\nzs")
        raises(self, BadText, {"row": 0, "what": "number"}, parse_sheet, "xs ")

    def test_showing(self):
        for word in ("", "3", "0+0", "1+0", "0+", "+0", "0+3", "--", "-+0", "0-1", "00", "0+1+1", "0 +1", "01", "0++1",
                     "-1", "0+1+2+3", "\u0661"):
            raises(self, BadText, {"row": 2, "what": "showing"}, parse_sheet, HEAD + "row " + word + "\nzs")
            raises(self, BadText, {"row": 3, "what": "showing"}, parse_sheet, HEAD + "row -\nrow - " + word)
        raises(self, BadText, {"row": 2, "what": "showing"}, parse_sheet, HEAD + "row -  -")

    def test_lacking(self):
        raises(self, BadText, {"row": 1, "what": "lacking"}, parse_sheet, "xs")
        raises(self, BadText, {"row": 1, "what": "lacking"}, parse_sheet, "xs 0 1 2")
        raises(self, BadText, {"row": 1, "what": "lacking"}, parse_sheet, "xs 0")

    def test_then_the_sheet_is_made(self):
        raises(self, BadSheet, {"what": "xs"}, parse_sheet, "xs 1 0\nys 0")
        raises(self, BadSheet, {"what": "xs"}, parse_sheet, "xs 0\nys 0 1\nrow -")
        raises(self, BadSheet, {"what": "ys"}, parse_sheet, "xs 0 1\nys 0\nrow -")
        raises(self, BadSheet, {"what": "ys"}, parse_sheet, "xs 0 1\nys")
        raises(self, BadSheet, {"what": "rows"}, parse_sheet, "xs 0 1\nys 0 1")
        raises(self, BadSheet, {"what": "rows"}, parse_sheet, "xs 0 1\nys 0 1\nrow")
        raises(self, BadSheet, {"what": "rows"}, parse_sheet, "xs\nys\nrow")
        raises(self, BadText, {"row": 2, "what": "word"}, parse_sheet, "xs 1 0\nys 0\nzs")


if __name__ == "__main__":
    unittest.main()
