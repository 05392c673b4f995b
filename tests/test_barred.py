import unittest

from neverbare.adding import least_added
from neverbare.barred import least_barred
from neverbare.bars import bar_holds
from neverbare.errors import BadBar, BadLot, BadRegion, TooMany
from neverbare.jobs import Job
from neverbare.needs import helping_ink, with_lot
from neverbare.plates import Plate
from tests.helping import (
    BAD_REGIONS, EXAMPLE, ODD_THINGS, REGION, SIX, Draws, all_lots, all_tuples, dense_jobs, free_ink, leaves_alone,
    led_lots, more_ink, plain_never_bare, raises, refuses, seen_otherwise, shows_something,
)
from tests.test_adding import LOTS, inner_region
from tests.test_bars import as_lists, drawn_bar, no_bars, plain_bar
from tests.test_needs import BAD_INKS

MIXED = ("widest", 0, (0, 6), (0, 1), "mixed", 3)
POOL = ((0, (3, 0)), (0, (4, 0)), (1, (2, 0)))


def plain_barred(job, region, bars, candidates):
    """All least lots of the candidates that work, by trying all."""
    found = []
    for lot in all_lots(candidates):
        if found and len(lot) > len(found[0]):
            break
        more = more_ink(job, lot)
        if plain_never_bare(more, region) and all(plain_bar(more, bar) for bar in bars):
            found.append(lot)
    return tuple(found)


class TestLeastBarred(unittest.TestCase):
    def test_told_values(self):
        self.assertEqual(least_barred(SIX, REGION, ()), LOTS)
        found = leaves_alone(self, least_barred, SIX, [list(cell) for cell in REGION], [as_lists(MIXED)])
        self.assertEqual(found, (LOTS[0], LOTS[2]))
        all_tuples(self, found)
        self.assertEqual(least_barred(SIX, REGION, [MIXED], as_lists(POOL)), (LOTS[0],))
        self.assertEqual(least_barred(SIX, REGION, [MIXED], POOL[1:]), ())
        self.assertEqual(least_barred(SIX, REGION, (), candidates=()), ())
        self.assertEqual(least_barred(SIX, [(1, 0)], [MIXED]), ((),))
        self.assertEqual(least_barred(SIX, (), (), None), ((),))

    def test_a_never_bare_region_with_a_bar_that_fails(self):
        """Nothing helps the region, so only told candidates can make the bar hold."""
        bar = ("seen", 1, (2, 0))
        self.assertEqual(least_barred(SIX, [(1, 0)], [bar]), ())
        self.assertEqual(least_barred(SIX, [(1, 0)], [bar], POOL), (((1, (2, 0)),),))

    def test_a_lot_need_not_be_irreducible(self):
        """The bar holds only behind two inks, of which the region needs one."""
        job = Job(3, 1, [Plate([(0, 0)], False, (0, 0)), Plate([], False, (0, 0))])
        candidates = [(0, (1, 0)), (1, (1, 0)), (1, (2, 0))]
        self.assertEqual(least_added(job, [(1, 0)]), (((0, (1, 0)),), ((1, (1, 0)),)))
        self.assertEqual(least_barred(job, [(1, 0)], [("shows", (1, 0), (0, 1))], candidates),
                         (((0, (1, 0)), (1, (1, 0))),))
        # A bar that holds behind a lot may fail behind a greater one.
        self.assertEqual(least_barred(job, [(1, 0), (2, 0)], [("unseen", 1, (2, 0))], candidates), ())

    def test_by_trying_all_lots(self):
        draws = Draws(861)
        sizes = set()
        for job in dense_jobs(862, 200, bounds=((0, 0), (1, 0))):
            region = inner_region(draws, job, 2)
            bars = [drawn_bar(draws, job) for _ in range(draws.below(3))]
            helping = helping_ink(job, region)
            if len(helping) <= 6:
                found = least_barred(job, region, bars)
                self.assertEqual(found, plain_barred(job, region, bars, helping))
                sizes.add(len(found[0]) if found else None)
            free = free_ink(job)
            told = tuple(sorted({draws.one_of(free) for _ in range(5)})) if free else ()
            found = least_barred(job, region, bars, told)
            self.assertEqual(found, plain_barred(job, region, bars, told))
            sizes.add(len(found[0]) if found else None)
        self.assertLessEqual({None, 0, 1, 2}, sizes)

    def test_without_bars_the_least_added(self):
        draws = Draws(863)
        for job in dense_jobs(864, 80):
            region = inner_region(draws, job, 3)
            if len(helping_ink(job, region)) <= 8:
                lots = least_barred(job, region, ())
                self.assertEqual(lots, least_added(job, region))
                for lot in lots[:1]:
                    shows_something(self, draws, with_lot(job, lot), region, 2)

    def test_jobs_seen_otherwise(self):
        draws = Draws(865)
        for job in dense_jobs(866, 40):
            region = inner_region(draws, job, 2)
            plate, cell = draws.below(len(job)), draws.one_of(job.field)
            if len(helping_ink(job, region)) > 8:
                continue
            for word in ("seen", "unseen"):
                lots = least_barred(job, region, [(word, plate, cell)])
                for other, lead in seen_otherwise(job):
                    found = least_barred(other, [lead(one) for one in region], [(word, plate, lead(cell))])
                    self.assertEqual(sorted(found), led_lots(lots, lead))
                for lot in lots:
                    self.assertTrue(bar_holds(with_lot(job, lot), (word, plate, cell)))

    def test_errors(self):
        refuses(self, least_barred, [SIX, [], (), ()], 1, BadRegion, BAD_REGIONS)
        for candidates in (None, 7, [(0, (0, 0))]):
            for thing in ([MIXED] * 5, {0: MIXED}, *ODD_THINGS):
                raises(self, BadBar, {"index": 0}, least_barred, SIX, REGION, thing, candidates)
            raises(self, BadBar, {"index": 1}, least_barred, SIX, REGION, [MIXED, MIXED[:5], None], candidates)
        for thing in no_bars()[:9]:
            raises(self, BadBar, {"index": 0}, least_barred, EXAMPLE, (), [thing])
        wide = Job(8, 8, [Plate([(0, 0)])] * 2)
        every = [(0, cell) for cell in wide.field]
        for thing in ([*every, *every, *every, None], {}, *[thing for thing in ODD_THINGS if thing is not None]):
            raises(self, BadLot, {"index": 0, "what": "many"}, least_barred, wide, (), (), thing)
        for thing in BAD_INKS:
            raises(self, BadLot, {"index": 1, "what": "ink"}, least_barred, EXAMPLE, (), (), [(0, (0, 0)), thing])
        raises(self, BadLot, {"index": 2, "what": "order"}, least_barred, SIX, (), (), [POOL[0], POOL[2], POOL[1]])
        raises(self, BadLot, {"index": 1, "what": "inked"}, least_barred, SIX, (), (), [POOL[0], (1, (5, 0))])
        raises(self, BadLot, {"index": 0, "what": "inked"}, least_barred, wide, (), (), every)
        raises(self, TooMany, {"most": 8}, least_barred, wide, (), (), every[1:10])
        self.assertEqual(least_barred(wide, (), (), every[1:9]), ((),))
        raises(self, TooMany, {"most": 8}, least_barred, wide, [(1, 1), (3, 3)], ())
        raises(self, TooMany, {"most": 8}, least_barred, wide, [(1, 1)], ())


if __name__ == "__main__":
    unittest.main()
