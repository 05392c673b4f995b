import unittest

from neverbare.bars import bar_holds
from neverbare.errors import BadWish, TooMany
from neverbare.jobs import Job
from neverbare.mixing import Mixed
from neverbare.plates import Plate
from neverbare.regions import Bare, Deep, never_bare
from neverbare.runs import Run
from neverbare.together import Parted, Together, always_together, parted_fault
from neverbare.unseen import Seen
from neverbare.widest import widest_run
from neverbare.wishes import Broken, broken_fault, broken_wish, check_wishes
from tests.helping import (
    BAD_GROUPS, BAD_REGIONS, BAD_SLIPS, EXAMPLE, ODD_THINGS, REGION, SIX, STILL, ZERO, Draws, all_tuples, drawn_jobs,
    drawn_region, leaves_alone, number, plain_never_bare, plain_showing, raises,
)
from tests.test_bars import GOOD, as_lists, drawn_bar, no_bars, plain_bar
from tests.test_pieces import all_groups

LINE = (1, 2)
LEFT, RIGHT = ((-1, 1), ZERO), ((1, 1), ZERO)
BARE = ("never bare", ((1, 0), (2, 0)))
WIDE = ("widest", 0, (0, 6), (0, 1), "mixed", 1)
MANY = Job(2, 1, [Plate([(0, 0)], False, (2, 2)) for _ in range(3)])  # more samples than 400


def drawn_wish(draws, job):
    word = draws.below(3)
    if word == 0:
        return "never bare", tuple(sorted(set(drawn_region(draws, job, 3))))
    if word == 1:
        return "together", draws.one_of(all_groups(job))
    return drawn_bar(draws, job)


def plain_granted(job, wish):
    if wish[0] == "never bare":
        return plain_never_bare(job, wish[1])
    if wish[0] == "together":
        return isinstance(always_together(job, wish[1]), Together)
    return plain_bar(job, wish)


class TestCheckWishes(unittest.TestCase):
    def test_values(self):
        wishes = (*GOOD, BARE)
        found = leaves_alone(self, check_wishes, EXAMPLE, [as_lists(wish) for wish in wishes])
        self.assertEqual(found, wishes)
        all_tuples(self, found)
        self.assertEqual(check_wishes(EXAMPLE, [["together", [0, 1]]]), (("together", (0, 1)),))
        self.assertEqual(check_wishes(EXAMPLE, (("never bare", [[3, 0], [1, 0], (3, 0)]),)),
                         (("never bare", ((1, 0), (3, 0))),))
        self.assertEqual(check_wishes(EXAMPLE, [("never bare", ())] * 6), (("never bare", ()),) * 6)

    def test_errors(self):
        wrong = [thing for thing in no_bars() if thing not in (("never bare", ()), ("together", (0,)))]
        wrong += [("never bare",), ("never bare", (), ()), ("Never bare", ()), ("together",), ("together", (0,), 0),
                  (["together"], (0,)), ({}, ())]
        wrong += [("never bare", region) for region, _ in BAD_REGIONS]
        wrong += [("together", group) for group, _ in BAD_GROUPS]
        for call in (check_wishes, broken_wish, lambda job, wishes: broken_fault(job, wishes, None)):
            for thing in ([], (), [BARE] * 7, {0: BARE}, *ODD_THINGS):
                raises(self, BadWish, {"index": 0}, call, EXAMPLE, thing)
            for thing in wrong:
                raises(self, BadWish, {"index": 1}, call, EXAMPLE, [BARE, thing, None])

    def test_a_wish_that_is_read_stays_the_same(self):
        draws = Draws(941)
        for job in drawn_jobs(942, 60):
            wishes = [drawn_wish(draws, job) for _ in range(3)]
            self.assertEqual(check_wishes(job, [as_lists(wish) for wish in wishes]), tuple(wishes))


class TestBrokenWish(unittest.TestCase):
    def why(self, job, *wishes):
        found = leaves_alone(self, broken_wish, job, [as_lists(wish) for wish in wishes])
        self.assertIsInstance(found, Broken)
        self.assertEqual(found.index, len(wishes) - 1)
        return found.why

    def test_told_values(self):
        granted = ("never bare", ((1, 0),))
        self.assertIsNone(broken_wish(SIX, [granted] * 6))
        bare = self.why(SIX, granted, BARE)
        self.assertEqual(bare.cell, (2, 0))
        self.assertEqual(bare, never_bare(SIX, BARE[1]))
        self.assertIsNone(parted_fault(SIX, (0, 1), self.why(SIX, ("together", (0, 1)))))
        run = self.why(SIX, granted, WIDE)
        self.assertEqual((run.length, run.across), ((2, 1), LINE))
        mixed = self.why(SIX, ("never mixed", ((1, 0), (2, 0), (3, 0))))
        self.assertIsInstance(mixed, Mixed)
        self.assertEqual(mixed.cell, (2, 0))
        self.assertIsInstance(self.why(EXAMPLE, ("unseen", 0, (4, 0)), ("unseen", 0, (3, 0))), Seen)
        self.assertEqual(self.why(EXAMPLE, ("seen", 0, (4, 0))), (((3, 0), 1), ((4, 0), 1), ((5, 0), 1)))
        self.assertIsNone(self.why(EXAMPLE, ("seen", 0, (0, 0))))
        self.assertIsNone(self.why(EXAMPLE, ("shows", (3, 0), ())))
        self.assertEqual(vars(Broken(1, [2])), {"index": 1, "why": [2]})

    def test_the_first_wish_that_is_not_granted(self):
        draws = Draws(943)
        words = set()
        for job in drawn_jobs(944, 700, bounds=((0, 0), (1, 0), (0, 1))):
            wishes = [drawn_wish(draws, job) for _ in range(1 + draws.below(4))]
            kept = [plain_granted(job, wish) for wish in wishes]
            found = broken_wish(job, wishes)
            if found is None:
                self.assertNotIn(False, kept)
                continue
            self.assertEqual(found.index, kept.index(False))
            self.assertIsNone(broken_fault(job, wishes, found))
            words.add(wishes[found.index][0])
            for index, wish in enumerate(wishes):
                alone = broken_wish(job, [wish])
                self.assertEqual(alone is None, kept[index])
                if alone is not None:
                    self.assertIsNone(broken_fault(job, wishes, Broken(index, alone.why)))
                if index != found.index and kept[index]:
                    for why in (found.why, None):
                        self.assertEqual(broken_fault(job, wishes, Broken(index, why)), "why")
        self.assertEqual(words, {"never bare", "together", "widest", "shows", "unseen", "seen", "never mixed"})

    def test_over_all_that_the_parts_before_decide(self):
        draws = Draws(945)
        for job in drawn_jobs(946, 60, bounds=((0, 0), (1, 0))):
            wish = drawn_wish(draws, job)
            granted = broken_wish(job, (wish,)) is None
            if wish[0] == "never bare":
                self.assertEqual(granted, isinstance(never_bare(job, wish[1]), Deep))
            elif wish[0] == "widest":
                run = widest_run(job, *wish[1:5])
                self.assertEqual(granted, run is None or number(run.length) <= wish[5])
            elif wish[0] != "together":
                self.assertEqual(granted, bar_holds(job, wish))

    def test_too_many_samples_only_where_a_wish_comes_to_it(self):
        together = ("together", (0,))
        raises(self, TooMany, {"most": 400}, broken_wish, MANY, [together])
        raises(self, TooMany, {"most": 400}, broken_wish, MANY, [("shows", (0, 0), ()), together])
        self.assertEqual(broken_wish(MANY, [("shows", (9, 9), (0,)), together]).index, 0)
        raises(self, BadWish, {"index": 1}, broken_wish, MANY, [together, None])
        self.assertEqual(broken_fault(MANY, [together], Broken(0, None)), "why")
        parted = Parted((STILL,) * 3, (LINE, LINE), (LINE, LINE))
        self.assertEqual(broken_fault(MANY, [together], Broken(0, parted)), "why")


class TestBrokenFault(unittest.TestCase):
    def fault(self, job, wish, why):
        return broken_fault(job, [("never bare", ()), as_lists(wish)], Broken(1, why))

    def test_broken_and_index(self):
        for thing in (*ODD_THINGS, Bare((2, 0), (LEFT, STILL)), (0, None)):
            self.assertEqual(broken_fault(SIX, [BARE], thing), "broken")
        for index in (1, -1, True, False, None, "0", (0,), 0.0):
            self.assertEqual(broken_fault(SIX, [BARE], Broken(index, None)), "index")

    def test_the_wishes_before_are_not_asked(self):
        wishes = [BARE, ("never bare", ((3, 0),)), ("shows", (9, 9), (0,))]
        self.assertIsNone(broken_fault(SIX, wishes, Broken(2, None)))
        self.assertIsNone(broken_fault(SIX, wishes, Broken(1, never_bare(SIX, [(3, 0)]))))

    def test_never_bare(self):
        self.assertIsNone(self.fault(SIX, BARE, Bare((2, 0), (LEFT, RIGHT))))
        for why in (Bare((1, 0), (LEFT, RIGHT)), Bare((3, 0), (LEFT, RIGHT)), Bare((2, 0), (STILL, STILL)),
                    Bare((2, 0), (((-3, 4), ZERO), STILL)), Bare(None, None), Mixed((2, 0), (LEFT, RIGHT)),
                    Deep(()), *ODD_THINGS):
            self.assertEqual(self.fault(SIX, BARE, why), "why")

    def test_together(self):
        wish = ("together", (0, 1))
        slips = (LEFT, RIGHT)
        self.assertIsNone(self.fault(SIX, wish, Parted(slips, (LINE, LINE), ((11, 2), LINE))))
        self.assertIsNone(self.fault(SIX, wish, Parted((((-1, 3), ZERO), STILL), (LINE, LINE), ((11, 2), LINE))))
        for why in (Parted(slips, (LINE, LINE), (LINE, LINE)), Parted((STILL, STILL), (LINE, LINE), ((11, 2), LINE)),
                    Parted(None, None, None), Parted(slips, ((5, 2), LINE), ((11, 2), LINE)), *ODD_THINGS):
            self.assertEqual(self.fault(SIX, wish, why), "why")

    def test_widest(self):
        slips = (RIGHT, LEFT)
        self.assertIsNone(self.fault(SIX, WIDE, Run(slips, LINE, (2, 1), (4, 1))))
        half = (((1, 2), ZERO), ((-3, 4), ZERO))
        self.assertIsNone(self.fault(SIX, WIDE, Run(half, (1, 3), (9, 4), (7, 2))))
        two = (*WIDE[:5], 2)
        for wish, why in ((WIDE, Run(slips, LINE, (2, 1), (3, 1))), (WIDE, Run((STILL, STILL), LINE, (2, 1), (4, 1))),
                          (two, Run(slips, LINE, (2, 1), (4, 1))), (WIDE, Run((((1, 2), ZERO), ((-1, 2), ZERO)), LINE,
                                                                              (5, 2), (7, 2))),
                          (WIDE, None), (WIDE, ()), (WIDE, Bare((2, 0), slips))):
            self.assertEqual(self.fault(SIX, wish, why), "why")
        for thing, _ in BAD_SLIPS:
            self.assertEqual(self.fault(SIX, WIDE, Run(thing, LINE, (2, 1), (4, 1))), "why")

    def test_the_line_of_a_run_lies_strictly_inside_the_band(self):
        job = Job(3, 2, [Plate([(x, y) for x in range(3) for y in (0, 1)], False, (0, 1))])
        wish = ("widest", 0, (0, 3), (0, 1), ("shows", 0), 2)
        slips = ((ZERO, (1, 2)),)
        self.assertIsNone(self.fault(job, wish, Run(slips, (2, 3), ZERO, (3, 1))))
        for across in ((1, 1), (5, 4), (2, 1)):  # runs, too, but not inside the band
            self.assertEqual(self.fault(job, wish, Run(slips, across, ZERO, (3, 1))), "why")

    def test_never_mixed(self):
        wish = ("never mixed", ((1, 0), (2, 0)))
        self.assertIsNone(self.fault(SIX, wish, Mixed((2, 0), (STILL, LEFT))))
        self.assertIsNone(self.fault(SIX, wish, Mixed((2, 0), [list(RIGHT), LEFT])))
        for why in (Mixed((2, 0), (STILL, STILL)), Mixed((3, 0), (RIGHT, STILL)), Mixed((2, 0), (STILL, ((-3, 4), ZERO))),
                    Mixed((2, 0), None), Mixed(None, (STILL, LEFT)), Mixed((True, 0), (STILL, LEFT)),
                    Bare((2, 0), (STILL, LEFT)), *ODD_THINGS):
            self.assertEqual(self.fault(SIX, wish, why), "why")

    def test_unseen(self):
        wish = ("unseen", 0, (3, 0))
        place = ((5, 2), LINE)
        self.assertIsNone(self.fault(EXAMPLE, wish, Seen((LEFT, RIGHT), place)))
        self.assertIsNone(self.fault(EXAMPLE, wish, Seen((((-7, 8), ZERO), ((7, 8), ZERO)), place)))
        for why in (Seen((LEFT, STILL), place), Seen((STILL, RIGHT), place), Seen(None, place), Seen((LEFT, RIGHT), None),
                    Seen((LEFT, RIGHT), ((2, 1), LINE)), (), *ODD_THINGS):
            self.assertEqual(self.fault(EXAMPLE, wish, why), "why")
        # No ink there, or ink that is unseen: the wish is granted, whatever is told.
        for cell in ((0, 0), (4, 0)):
            for why in (Seen((LEFT, RIGHT), place), None):
                self.assertEqual(self.fault(EXAMPLE, ("unseen", 0, cell), why), "why")

    def test_seen(self):
        wish = ("seen", 0, (4, 0))
        cover = (((3, 0), 1), ((4, 0), 1), ((5, 0), 1))
        self.assertIsNone(self.fault(EXAMPLE, wish, cover))
        self.assertIsNone(self.fault(EXAMPLE, ("seen", 0, (0, 0)), None))
        for why in (list(cover), cover[:2], (*cover[:2], ((5, 0), 0)), (), *ODD_THINGS):
            self.assertEqual(self.fault(EXAMPLE, wish, why), "why")
        for why in (None, cover):
            self.assertEqual(self.fault(EXAMPLE, ("seen", 0, (3, 0)), why), "why")
        for why in (cover, (), False, 0):
            self.assertEqual(self.fault(EXAMPLE, ("seen", 0, (0, 0)), why), "why")

    def test_shows(self):
        self.assertIsNone(self.fault(EXAMPLE, ("shows", (3, 0), ()), None))
        self.assertIsNone(self.fault(EXAMPLE, ("shows", (3, 0), (0, 1)), None))
        self.assertEqual(self.fault(EXAMPLE, ("shows", (2, 0), ()), None), "why")
        for why in ((), False, 0, Bare((3, 0), (STILL, STILL))):
            self.assertEqual(self.fault(EXAMPLE, ("shows", (3, 0), ()), why), "why")

    def test_slips_that_are_not_whole_tell_runs_and_parts_too(self):
        half = (((-1, 2), ZERO), ((1, 2), ZERO))
        self.assertEqual(plain_showing(SIX, half, ((3, 1), LINE)), ())
        self.assertIsNone(self.fault(SIX, ("together", (0, 1)), Parted(half, ((1, 3), LINE), ((16, 3), LINE))))
        self.assertIsNone(self.fault(SIX, ("widest", 0, (0, 6), (0, 1), "bare", 0), Run(half, LINE, (5, 2), (7, 2))))
        self.assertEqual(self.fault(SIX, ("never bare", REGION), Bare((2, 0), half)), "why")


if __name__ == "__main__":
    unittest.main()
