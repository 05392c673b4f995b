import unittest

from neverbare.errors import BadText
from neverbare.jobs import Job
from neverbare.jobtext import (
    cells_text, job_text, parse_cells, parse_job, parse_slips, read_number, read_whole, slips_text,
)
from neverbare.plates import Plate
from tests.helping import Draws, all_tuples, drawn_jobs, drawn_slips, leaves_alone, raises

JOB = Job(3, 2, [Plate([(0, 0), (2, 1)], True, (1, 0)), Plate([], False, (0, 2))])
TEXT = "job 3 2\nplate hiding 1 0\n#..\n..#\nplate clear 0 2\n...\n..."


class TestNumberWords(unittest.TestCase):
    def test_numbers(self):
        for word, ratio in (("0", (0, 1)), ("3", (3, 1)), ("-7/2", (-7, 2)), ("1/10", (1, 10)), ("-12", (-12, 1)),
                            ("9" * 300, (int("9" * 300), 1))):
            self.assertEqual(read_number(word), ratio)

    def test_no_numbers(self):
        for word in ("", "-", "-0", "+3", "03", "-03", "2/4", "3/1", "0/1", "0/2", "1/0", "1/02", "1/-2", "/2", "3/",
                     "1/2/3", "--3", "1 ", " 1", "1.0", "1e2", "1_0", "a", "-a", "1\n", "\u0661", "\u00b2", "1/\u0662",
                     "9" * 301, "-" + "9" * 300, "- 3", "5-", "-0/1", "00"):
            self.assertIsNone(read_number(word), word)

    def test_whole_words(self):
        self.assertEqual(read_whole("3", 1, 8), 3)
        self.assertEqual(read_whole("-2", -2, 8), -2)
        for word in ("9", "0", "3/2", "03", ""):
            self.assertIsNone(read_whole(word, 1, 8))


class TestJobText(unittest.TestCase):
    def test_text(self):
        self.assertEqual(job_text(JOB), TEXT)
        self.assertEqual(job_text(Job(1, 1, [Plate([(0, 0)], False, (2, 1))])), "job 1 1\nplate clear 2 1\n#")

    def test_parse(self):
        self.assertEqual(parse_job(TEXT), JOB)
        great = Job(8, 8, [Plate([(7, 7)], True, (2, 2))])
        self.assertEqual(parse_job(job_text(great)), great)
        self.assertEqual(parse_job("job 1 1\nplate clear 2 1\n#"), Job(1, 1, [Plate([(0, 0)], False, (2, 1))]))

    def test_what_is_written_is_read(self):
        for job in drawn_jobs(31, 40):
            self.assertEqual(parse_job(job_text(job)), job)
            self.assertEqual(job_text(parse_job(job_text(job))), job_text(job))

    def test_words_of_the_job_row(self):
        for row in ("", "Job 1 1", "jobs 1 1", " job 1 1", "plate 1 1", "x"):
            raises(self, BadText, {"row": 0, "what": "word"}, parse_job, row)
            raises(self, BadText, {"row": 0, "what": "word"}, parse_job, row + "\nplate clear 1 1\n#")
        for row in ("job", "job 1", "job 1 1 1", "job  1 1", "job 1  1", "job 1 1 ", "job 1 1 x"):
            raises(self, BadText, {"row": 0, "what": "size"}, parse_job, row)
        for row in ("job 0 1", "job 1 9", "job 01 1", "job 1 -1", "job 1 1/2", "job a 1", "job 1 ", "job +1 1",
                    "job 1 1\r"):
            raises(self, BadText, {"row": 0, "what": "number"}, parse_job, row)

    def test_words_of_a_plate_row(self):
        for row in ("", "plate", "plates clear 1 1", "Plate clear 1 1", "plate opaque 1 1", "plate  clear 1 1",
                    "plate 1 1", "#", "job 1 1", "plate Clear 1 1"):
            raises(self, BadText, {"row": 1, "what": "word"}, parse_job, "job 1 1\n" + row)
            raises(self, BadText, {"row": 3, "what": "word"}, parse_job,
                   "job 1 1\nplate clear 1 1\n#\n" + row)
        for row in ("plate clear", "plate hiding 1", "plate clear 1 1 1", "plate clear 1 1 ", "plate clear  1 1"):
            raises(self, BadText, {"row": 1, "what": "size"}, parse_job, "job 1 1\n" + row)
        for row in ("plate clear 3 1", "plate clear 1 3", "plate clear -1 1", "plate clear 1 01",
                    "plate clear 1 1/2", "plate clear x 1", "plate hiding 1 "):
            raises(self, BadText, {"row": 1, "what": "number"}, parse_job, "job 1 1\n" + row)

    def test_field_rows(self):
        for row in ("", "#", "###", "# ", "#x", "##\r"):
            raises(self, BadText, {"row": 3, "what": "row"}, parse_job,
                   "job 2 3\nplate clear 1 1\n##\n" + row + "\n..")

    def test_lacking(self):
        raises(self, BadText, {"row": 1, "what": "lacking"}, parse_job, "job 1 2")
        raises(self, BadText, {"row": 2, "what": "lacking"}, parse_job, "job 1 2\nplate clear 1 1")
        raises(self, BadText, {"row": 3, "what": "lacking"}, parse_job, "job 1 2\nplate clear 1 1\n#")
        raises(self, BadText, {"row": 6, "what": "lacking"}, parse_job,
               "job 1 2\nplate clear 1 1\n#\n#\nplate clear 1 1\n#")

    def test_an_earlier_row_comes_first(self):
        raises(self, BadText, {"row": 2, "what": "row"}, parse_job, "job 1 3\nplate clear 1 1\n?")
        raises(self, BadText, {"row": 1, "what": "number"}, parse_job, "job 1 3\nplate clear 9 1")

    def test_many(self):
        three = "job 1 1" + "\nplate clear 1 1\n#" * 3
        self.assertEqual(len(parse_job(three)), 3)
        for row in ("", "plate clear 1 1\n#", "?"):
            raises(self, BadText, {"row": 7, "what": "many"}, parse_job, three + "\n" + row)

    def test_line_feed_at_the_end(self):
        raises(self, BadText, {"row": 7, "what": "word"}, parse_job, TEXT + "\n")


class TestSlipsText(unittest.TestCase):
    def test_text(self):
        slips = (((1, 2), (0, 1)), ((-1, 1), (1, 3)))
        self.assertEqual(slips_text(slips), "1/2,0 -1,1/3")
        self.assertEqual(parse_slips("1/2,0 -1,1/3"), slips)
        self.assertEqual(leaves_alone(self, slips_text, [[(1, 2), (0, 1)]]), "1/2,0")
        all_tuples(self, parse_slips("1/2,0 -1,1/3"))

    def test_slips_beyond_bounds_and_more_than_three(self):
        self.assertEqual(parse_slips("9,9 8,8 7,7 6,-13/2")[3], ((6, 1), (-13, 2)))

    def test_both_ways(self):
        draws = Draws(4)
        for job in drawn_jobs(32, 20):
            slips = drawn_slips(draws, job)
            self.assertEqual(parse_slips(slips_text(slips)), slips)

    def test_errors(self):
        for word in ("", "1", "1,2,3", "1;2", "none", "\n"):
            raises(self, BadText, {"row": 0, "what": "size"}, parse_slips, word)
            raises(self, BadText, {"row": 1, "what": "size"}, parse_slips, "0,0 " + word + " x")
        for word in (",", "1,", ",1", "1,x", "01,1", "1,2/4", "1,+1", "1,-0", "1,1\n", "1\n,1"):
            raises(self, BadText, {"row": 0, "what": "number"}, parse_slips, word)
            raises(self, BadText, {"row": 1, "what": "number"}, parse_slips, "0,0 " + word + " x")
        raises(self, BadText, {"row": 1, "what": "size"}, parse_slips, "0,0  0,0")
        raises(self, BadText, {"row": 1, "what": "size"}, parse_slips, "0,0 ")
        raises(self, BadText, {"row": 0, "what": "size"}, parse_slips, "x 1,y")
        raises(self, BadText, {"row": 0, "what": "size"}, parse_slips, "0,0\n0,0")


class TestCellsText(unittest.TestCase):
    def test_text(self):
        self.assertEqual(cells_text([(3, 0), [-20, 20], (3, 0)]), "3,0 -20,20 3,0")
        self.assertEqual(cells_text([]), "none")
        self.assertEqual(cells_text(()), "none")

    def test_parse(self):
        self.assertEqual(parse_cells("3,0 -20,20 3,0"), ((3, 0), (-20, 20), (3, 0)))
        self.assertEqual(parse_cells("none"), ())
        all_tuples(self, parse_cells("3,0 -20,20"))

    def test_errors(self):
        for word in ("", "1", "1,2,3", "None", "none\n"):
            raises(self, BadText, {"row": 0, "what": "size"}, parse_cells, word)
        for word in ("21,0", "0,-21", "1/2,0", "0,", ",0", "0,x", "00,0", "0,0\n"):
            raises(self, BadText, {"row": 0, "what": "number"}, parse_cells, word)
            raises(self, BadText, {"row": 2, "what": "number"}, parse_cells, "0,0 1,1 " + word + " none")
        raises(self, BadText, {"row": 0, "what": "size"}, parse_cells, "none 0,0")
        raises(self, BadText, {"row": 1, "what": "size"}, parse_cells, "0,0 none")


if __name__ == "__main__":
    unittest.main()
