import unittest

from neverbare.errors import BadGroup, BadPlace, BadSlips, OnLine
from neverbare.jobs import Job
from neverbare.pieces import check_group, holes_at, piece_at, pieces_at
from neverbare.plates import Plate
from neverbare.sheets import rectangle_at, sheet_of
from tests.helping import (
    BAD_GROUPS, BAD_PLACES, BAD_SLIPS, EXAMPLE, STILL, ZERO, Draws, all_tuples, as_ratio, drawn_jobs, drawn_place,
    drawn_slips, leaves_alone, number, on_no_line, plain_showing, raises, refuses,
)

HALF = ((1, 2), ZERO)
LEFT, RIGHT = ((-1, 1), ZERO), ((1, 1), ZERO)
RING = Job(3, 3, [Plate.from_rows(["###", "#.#", "###"], False, (1, 1)), Plate([(1, 1)], True, (1, 1))])


def all_groups(job):
    plates = range(len(job))
    return [tuple(plate for plate in plates if code >> plate & 1) for code in range(1, 1 << len(job))]


def plain_counts(job, slips, group):
    """Which rectangles of the sheet count: each is asked at a place on no line."""
    sheet = sheet_of(job, slips)
    found = {}
    for i in range(max(len(sheet.xs) - 1, 0)):
        for j in range(max(len(sheet.ys) - 1, 0)):
            place = []
            for axis, (low, high) in enumerate(((sheet.xs[i], sheet.xs[i + 1]), (sheet.ys[j], sheet.ys[j + 1]))):
                low, high = number(low), number(high)
                cuts = sorted({low, high} | {whole + number(slip[axis]) for slip in slips for whole in range(-6, 12)
                                             if low < whole + number(slip[axis]) < high})
                place.append(as_ratio((cuts[0] + cuts[1]) / 2))
            found[i, j] = bool(set(plain_showing(job, slips, place)) & set(group))
    return found


def plain_parts(counts, right):
    """The parts that hold together by sides, those of them that count or those that do not."""
    left = {index for index in counts if counts[index] == right}
    parts = []
    while left:
        part = [min(left)]
        left.remove(part[0])
        for i, j in part:
            for near in ((i + 1, j), (i - 1, j), (i, j + 1), (i, j - 1)):
                if near in left:
                    left.remove(near)
                    part.append(near)
        parts.append(tuple(sorted(part)))
    return sorted(parts)


def plain_pieces(job, slips, group):
    return tuple(plain_parts(plain_counts(job, slips, group), True))


def plain_holes(job, slips, group):
    counts = plain_counts(job, slips, group)
    wide, high = max(i for i, _ in counts) if counts else 0, max(j for _, j in counts) if counts else 0
    return tuple(part for part in plain_parts(counts, False)
                 if not any(i in (0, wide) or j in (0, high) for i, j in part))


class TestCheckGroup(unittest.TestCase):
    def test_groups(self):
        for group in ([0], [1], [0, 1], (0, 1)):
            self.assertEqual(leaves_alone(self, check_group, EXAMPLE, group), tuple(group))
            all_tuples(self, check_group(EXAMPLE, group))

    def test_errors(self):
        refuses(self, check_group, [EXAMPLE, None], 1, BadGroup, BAD_GROUPS)


class TestPiecesAt(unittest.TestCase):
    def test_told_values(self):
        job = Job(4, 1, [Plate([(0, 0), (1, 0)], False, (1, 0)), Plate([(2, 0), (3, 0)], False, (1, 0))])
        self.assertEqual(leaves_alone(self, pieces_at, job, [STILL, STILL], [0, 1]), (((0, 0), (1, 0), (2, 0), (3, 0)),))
        self.assertEqual(pieces_at(job, [LEFT, STILL], (0, 1)), (((0, 0), (1, 0)), ((3, 0), (4, 0))))
        self.assertEqual(pieces_at(job, [STILL, HALF], (0, 1)), (((0, 0), (1, 0)), ((3, 0), (4, 0))))
        self.assertEqual(pieces_at(job, [STILL, LEFT], (1,)), (((1, 0), (2, 0)),))
        all_tuples(self, pieces_at(job, [STILL, LEFT], [1]))
        none = Job(2, 2, [Plate([], False, (1, 1))])
        self.assertEqual(pieces_at(none, [STILL], (0,)), ())
        self.assertEqual(holes_at(none, [STILL], (0,)), ())

    def test_a_corner_in_common_is_not_enough(self):
        job = Job(2, 2, [Plate([(0, 0), (1, 1)])])
        self.assertEqual(pieces_at(job, [STILL], (0,)), (((0, 0),), ((1, 1),)))
        cross = Job(3, 3, [Plate.from_rows([".#.", "#.#", ".#."])])
        self.assertEqual(pieces_at(cross, [STILL], (0,)), (((0, 1),), ((1, 0),), ((1, 2),), ((2, 1),)))
        self.assertEqual(holes_at(cross, [STILL], (0,)), (((1, 1),),))  # nor do rectangles at a corner let it out

    def test_holes(self):
        slips = [STILL, STILL]
        self.assertEqual(leaves_alone(self, holes_at, RING, slips, [0]), (((1, 1),),))
        self.assertEqual(holes_at(RING, slips, (0, 1)), ())
        self.assertEqual(holes_at(RING, slips, (1,)), ())
        moved = holes_at(RING, (STILL, ((1, 2), ZERO)), (0, 1))
        self.assertEqual(moved, (((1, 1),),))
        all_tuples(self, moved)
        self.assertEqual(holes_at(RING, (STILL, ((1, 2), (1, 2))), (0,)),
                         (((1, 1), (1, 2), (2, 1), (2, 2), (2, 3), (3, 2), (3, 3)),))
        self.assertEqual(holes_at(RING, (STILL, RIGHT), (0,)), ())  # the hiding plate opens the hole to the rim

    def test_drawn_slips(self):
        draws = Draws(551)
        for job in drawn_jobs(552, 40):
            slips = drawn_slips(draws, job)
            for group in all_groups(job):
                pieces, holes = pieces_at(job, slips, group), holes_at(job, slips, group)
                self.assertEqual(pieces, plain_pieces(job, slips, group))
                self.assertEqual(holes, plain_holes(job, slips, group))
                all_tuples(self, (pieces, holes))

    def test_errors(self):
        for call in (pieces_at, holes_at):
            refuses(self, call, [EXAMPLE, (STILL, STILL), (0,)], 1, BadSlips, BAD_SLIPS)
            refuses(self, call, [EXAMPLE, (STILL, STILL), (0,)], 2, BadGroup, BAD_GROUPS)


class TestPieceAt(unittest.TestCase):
    JOB = Job(6, 1, [Plate([(0, 0), (2, 0), (3, 0), (5, 0)], False, (1, 0)), Plate([], False, (1, 0))])

    def test_told_values(self):
        slips = [list(HALF), STILL]
        for x, piece in (((3, 4), 0), ((7, 4), None), ((13, 4), 1), ((15, 4), 1), ((19, 4), None), ((23, 4), 2),
                         ((1, 4), None), ((27, 4), None), ((99, 4), None)):
            self.assertEqual(leaves_alone(self, piece_at, self.JOB, slips, [0], [x, (1, 2)]), piece)
        self.assertIsNone(piece_at(self.JOB, slips, (0,), ((3, 4), (3, 2))))
        self.assertIsNone(piece_at(self.JOB, slips, (1,), ((3, 4), (1, 2))))

    def test_drawn_places(self):
        draws = Draws(553)
        for job in drawn_jobs(554, 80):
            slips, place = drawn_slips(draws, job), drawn_place(draws, job)
            if on_no_line(job, slips, place):
                index = rectangle_at(sheet_of(job, slips), place)
                for group in all_groups(job):
                    found = piece_at(job, slips, group, place)
                    self.assertEqual(found is not None, bool(set(group) & set(plain_showing(job, slips, place))))
                    if found is not None:
                        self.assertIn(index, pieces_at(job, slips, group)[found])

    def test_errors(self):
        good = [EXAMPLE, (HALF, STILL), (0,), ((1, 4), (1, 2))]
        refuses(self, piece_at, good, 1, BadSlips, BAD_SLIPS)
        refuses(self, piece_at, good, 2, BadGroup, BAD_GROUPS)
        refuses(self, piece_at, good, 3, BadPlace, BAD_PLACES)
        raises(self, OnLine, {"plate": 0}, piece_at, EXAMPLE, (HALF, STILL), (0,), ((99, 1), (3, 1)))
        raises(self, OnLine, {"plate": 1}, piece_at, EXAMPLE, (HALF, STILL), (0,), ((3, 1), (1, 2)))
        raises(self, OnLine, {"plate": 1}, piece_at, self.JOB, (HALF, STILL), (0,), ((1, 1), (1, 2)))


if __name__ == "__main__":
    unittest.main()
