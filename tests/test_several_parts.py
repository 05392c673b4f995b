"""What the document says of several parts together."""

import unittest

from neverbare.adding import all_added, least_added
from neverbare.areas import area_at, greatest_area, least_area
from neverbare.barred import least_barred
from neverbare.bars import bar_holds
from neverbare.bench import Bench
from neverbare.changes import job_after
from neverbare.covering import most_covered
from neverbare.exchange import may_exchange, may_switch, orders_alike
from neverbare.jobs import Job
from neverbare.jobtext import job_text, parse_job
from neverbare.jointly import BareAt, all_bare
from neverbare.keeping import all_kept
from neverbare.leastjob import alike_jobs, count_alike, greatest_job, least_job
from neverbare.losing import bearable_losses
from neverbare.mends import find_mends, find_spoilers
from neverbare.mixing import Unmixed, never_mixed
from neverbare.needless import needed_ink, strip_job
from neverbare.needs import ink_of, with_lot
from neverbare.pieces import piece_at
from neverbare.pictures import areas_of
from neverbare.places import showings_at, surely_shows
from neverbare.plans import Untold, plan_fault, plan_for
from neverbare.plates import Plate
from neverbare.ratios import times
from neverbare.rectangles import greatest_rectangles, rectangle_for
from neverbare.regions import Deep, bare_cells, never_bare
from neverbare.rooms import does_fit, find_slips, rooms_for
from neverbare.runs import runs_at
from neverbare.samples import apart_samples
from neverbare.sheets import sheet_of, table_of
from neverbare.slips import finer_slips, mirrored_slips, turned_slips
from neverbare.spots import stands_of, table_at
from neverbare.stands import corners_of
from neverbare.sure import sure_stretches, surely_inked
from neverbare.surely import sure_at, which_look
from neverbare.together import Together, always_together, hole_counts, piece_counts
from neverbare.touching import may_touch, must_touch
from neverbare.unseen import unseen_inks
from neverbare.widest import widest_run
from neverbare.wishes import broken_fault, broken_wish
from tests.helping import (
    Draws, all_kinds, as_ratio, at_axis, cells_about, deep_regions, dense_jobs, drawn_case, drawn_jobs, drawn_slips,
    free_ink, number, on_no_line, place_in, plain_lines, plain_showing, seen_otherwise,
)
from tests.test_bars import drawn_bar
from tests.test_pieces import all_groups
from tests.test_rooms import drawn_looks
from tests.test_surely import free_place
from tests.test_together import some_jobs
from tests.test_wishes import drawn_wish


def width_of(job, axis, window, band, kind):
    run = widest_run(job, axis, window, band, kind)
    return 0 if run is None else number(run.length)


def ends_of(counts):
    return counts.least, counts.most


class TestJobsSeenOtherwise(unittest.TestCase):
    def test_unseen_ink(self):
        for job in drawn_jobs(701, 60, width=3, height=2):
            found = unseen_inks(job)
            self.assertEqual(unseen_inks(job.mirrored(0)), tuple(sorted((p, (2 - x, y)) for p, (x, y) in found)))
            self.assertEqual(unseen_inks(job.mirrored(1)), tuple(sorted((p, (x, 1 - y)) for p, (x, y) in found)))
            self.assertEqual(unseen_inks(job.turned()), tuple(sorted((p, (1 - y, x)) for p, (x, y) in found)))
            self.assertEqual(unseen_inks(job.finer(2)), tuple(sorted(
                (p, (2 * x + i, 2 * y + j)) for p, (x, y) in found for i in (0, 1) for j in (0, 1))))

    def test_least_and_greatest_jobs(self):
        for job in drawn_jobs(702, 60, width=3, height=2):
            for call in (least_job, greatest_job):
                for other, seen in ((job.mirrored(0), call(job).mirrored(0)), (job.mirrored(1), call(job).mirrored(1)),
                                    (job.turned(), call(job).turned())):
                    self.assertEqual(call(other), seen)
            self.assertEqual(least_job(job.finer(2)), least_job(job).finer(2))

    def test_exchanges_and_switches(self):
        for job in drawn_jobs(703, 60, width=3, height=2):
            others = (job.mirrored(0), job.mirrored(1), job.turned(), job.finer(2))
            for other in others:
                self.assertEqual(orders_alike(other), orders_alike(job))
                for plate in range(len(job)):
                    self.assertEqual(may_switch(other, plate) is None, may_switch(job, plate) is None)
                for plate in range(len(job) - 1):
                    self.assertEqual(may_exchange(other, plate) is None, may_exchange(job, plate) is None)


class TestAlike(unittest.TestCase):
    def test_jobs_that_look_alike_answer_alike(self):
        draws = Draws(704)
        for job in drawn_jobs(705, 60):
            if count_alike(job) > 64:
                continue
            axis, window, band, kind = drawn_case(draws, job)
            region = job.field[:4]
            slips = drawn_slips(draws, job)
            for other in list(alike_jobs(job))[:4]:
                self.assertEqual(area_at(other, slips, region, kind), area_at(job, slips, region, kind))
                self.assertEqual(greatest_area(other, region, kind), greatest_area(job, region, kind))
                self.assertEqual(least_area(other, region, kind), least_area(job, region, kind))
                self.assertEqual(width_of(other, axis, window, band, kind), width_of(job, axis, window, band, kind))
                self.assertEqual(greatest_rectangles(other, window, band, kind),
                                 greatest_rectangles(job, window, band, kind))
                self.assertEqual(sure_stretches(other, axis, window, band, kind),
                                 sure_stretches(job, axis, window, band, kind))
                self.assertEqual(surely_inked(other, axis, window, band), surely_inked(job, axis, window, band))
                self.assertEqual(isinstance(never_bare(other, region), Deep), isinstance(never_bare(job, region), Deep))
                for across in plain_lines(slips, axis, band):
                    self.assertEqual(runs_at(other, slips, axis, across, window, kind),
                                     runs_at(job, slips, axis, across, window, kind))

    def test_they_hang_together_alike(self):
        draws = Draws(706)
        for job in some_jobs(707, 60):
            group = draws.one_of(all_groups(job))
            least = least_job(job)
            self.assertEqual(isinstance(always_together(least, group), Together),
                             isinstance(always_together(job, group), Together))
            for call in (piece_counts, hole_counts):
                self.assertEqual(ends_of(call(least, group)), ends_of(call(job, group)))
            if len(job) == 2:
                self.assertEqual(may_touch(least, 0, 1) is None, may_touch(job, 0, 1) is None)
                self.assertEqual(must_touch(least, 0, 1) is None, must_touch(job, 0, 1) is None)

    def test_plates_that_may_be_exchanged(self):
        met = 0
        for job in some_jobs(708, 150):
            for plate in range(len(job) - 1):
                if may_exchange(job, plate) is None:
                    met += 1
                    other = job.exchanged(plate)
                    renamed = {plate: plate + 1, plate + 1: plate}
                    for group in all_groups(job):
                        new = tuple(sorted(renamed.get(one, one) for one in group))
                        for call in (piece_counts, hole_counts):
                            self.assertEqual(ends_of(call(other, new)), ends_of(call(job, group)))
        self.assertGreater(met, 10)


class TestStands(unittest.TestCase):
    def test_tables_and_areas_hang_on_the_stands(self):
        draws = Draws(709)
        for job in drawn_jobs(710, 60):
            slips = drawn_slips(draws, job)
            self.assertEqual(table_at(job, stands_of(job, slips)), table_of(job, slips))
            whole = [(x, y) for x in range(-2, job.width + 2) for y in range(-2, job.height + 2)][:48]
            areas = dict(areas_of(sheet_of(job, slips)))
            if len(whole) == (job.width + 4) * (job.height + 4):
                for kind in [("alone", plate) for plate in range(len(job))]:
                    self.assertEqual(area_at(job, slips, whole, kind), areas.get((kind[1],), (0, 1)))

    def test_a_topmost_plate_shows_its_area_at_all_slips(self):
        draws = Draws(711)
        for job in drawn_jobs(712, 40, width=3, height=2):
            region = [(x, y) for x in range(-1, 4) for y in range(-1, 3)]
            top = len(job) - 1
            slips = drawn_slips(draws, job)
            self.assertEqual(area_at(job, slips, region, ("shows", top)), (len(job.plates[top]), 1))
            self.assertEqual(greatest_area(job, region, ("shows", top)).size, len(job.plates[top]))
            self.assertEqual(least_area(job, region, ("shows", top)).size, len(job.plates[top]))

    def test_corners_are_within_the_bounds(self):
        draws = Draws(713)
        for job in drawn_jobs(714, 30, bounds=((2, 1), (1, 2), (1, 1))):
            for axis, stand in enumerate(stands_of(job, drawn_slips(draws, job))):
                for corner in corners_of(stand):
                    self.assertTrue(all(abs(step) <= plate.bound[axis] for step, plate in zip(corner, job)))


class TestBars(unittest.TestCase):
    def test_bars_rest_on_the_parts_before(self):
        draws = Draws(725)
        for job in drawn_jobs(726, 80):
            axis, window, band, kind = drawn_case(draws, job)
            width = width_of(job, axis, window, band, kind)
            for most in range(3):
                self.assertEqual(bar_holds(job, ("widest", axis, window, band, kind, most)), width <= most)
            cell = draws.one_of(cells_about(job))
            shown = [showing for showing, _ in showings_at(job, cell)]
            for showing in ((), (0,), (len(job) - 1,), tuple(range(len(job)))):
                self.assertEqual(bar_holds(job, ("shows", cell, showing)), showing in shown)
            region = [draws.one_of(cells_about(job)) for _ in range(3)]
            self.assertEqual(bar_holds(job, ("never mixed", region)), isinstance(never_mixed(job, region), Unmixed))
            unseen = unseen_inks(job)
            for plate, own in enumerate(job):
                for cell in job.field:
                    seen = cell in own and (plate, cell) not in unseen
                    self.assertEqual(bar_holds(job, ("seen", plate, cell)), seen)
                    self.assertEqual(bar_holds(job, ("unseen", plate, cell)), not seen)

    def test_bars_are_led_along(self):
        draws = Draws(727)
        for job in drawn_jobs(728, 60, width=3, height=3):
            axis, _, _, kind = drawn_case(draws, job)
            plate, cell, region = draws.below(len(job)), draws.one_of(job.field), [draws.one_of(job.field)]
            most = draws.below(3)
            for other, lead in seen_otherwise(job):
                turned = 1 - axis if lead((1, 0)) in ((0, 1), (2, 1)) else axis
                for bar, led in (
                        (("widest", axis, (0, 3), (0, 3), kind, most), ("widest", turned, (0, 3), (0, 3), kind, most)),
                        (("shows", cell, (plate,)), ("shows", lead(cell), (plate,))),
                        (("seen", plate, cell), ("seen", plate, lead(cell))),
                        (("unseen", plate, cell), ("unseen", plate, lead(cell))),
                        (("never mixed", region), ("never mixed", [lead(one) for one in region]))):
                    self.assertEqual(bar_holds(other, led), bar_holds(job, bar), bar)

    def test_areas_are_led_along(self):
        draws = Draws(729)
        for job in drawn_jobs(730, 40, width=3, height=2):
            region = [draws.one_of(cells_about(job)) for _ in range(3)]
            for kind in all_kinds(job):
                for call in (greatest_area, least_area):
                    size = call(job, region, kind).size
                    for other, lead in seen_otherwise(job):
                        self.assertEqual(call(other, [lead(cell) for cell in region], kind).size, size)

    def test_a_region_is_never_bare_exactly_if_nothing_need_be_added(self):
        draws = Draws(731)
        for job in drawn_jobs(732, 80, width=3, height=2):
            region = [draws.one_of(job.field) for _ in range(draws.below(4))]
            never = isinstance(never_bare(job, region), Deep)
            self.assertEqual(least_added(job, region) == ((),), never)
            self.assertEqual(greatest_area(job, region, "bare").size == 0, never)
            losses = bearable_losses(job, region)
            self.assertEqual(losses is None or losses >= 0, never)
            self.assertEqual(most_covered(job, region, 0).covered, len(set(region)) - len(bare_cells(job, region)))
            for lot in least_added(job, region)[:2]:
                more = with_lot(job, lot)
                self.assertIsInstance(never_bare(more, region), Deep)
                self.assertLessEqual(set(lot), set(needed_ink(more, region)))
                self.assertIn(ink_of(strip_job(more, region)), list(all_kept(more, region)))


def led_place(place, job, way):
    """The place that corresponds to one, mirrored along x, along y, or turned."""
    x, y = number(place[0]), number(place[1])
    led = ((job.width - x, y), (x, job.height - y), (job.height - y, x))[way]
    return as_ratio(led[0]), as_ratio(led[1])


def led_slips(slips, way):
    return mirrored_slips(slips, way) if way < 2 else turned_slips(slips)


class TestLooks(unittest.TestCase):
    def test_looks_are_led_along(self):
        draws = Draws(733)
        for job in drawn_jobs(734, 60):
            slips = drawn_slips(draws, job)
            looks = drawn_looks(draws, job, 1 + draws.below(3), slips)
            places = [free_place(draws, job) for _ in range(3)]
            rooms = [len(row) for row in rooms_for(job, looks).rows]
            plan = plan_for(job, looks, places[:2], places[2])
            for way, (other, _) in enumerate(seen_otherwise(job)):
                moved = [(led_place(place, job, way), showing) for place, showing in looks]
                goals = [led_place(place, job, way) for place in places]
                self.assertTrue(does_fit(other, moved, led_slips(slips, way)))
                self.assertTrue(does_fit(other, moved, led_slips(find_slips(job, looks), way)))
                self.assertEqual([len(row) for row in rooms_for(other, moved).rows], rooms)
                for place, goal in zip(places, goals):
                    self.assertEqual(sure_at(other, moved, goal), sure_at(job, looks, place))
                self.assertEqual(which_look(other, moved, goals), which_look(job, looks, places))
                led = plan_for(other, moved, goals[:2], goals[2])
                self.assertIs(led.__class__, plan.__class__)
                if not isinstance(plan, Untold):
                    self.assertEqual(led.depth, plan.depth)
                    self.assertIsNone(plan_fault(other, moved, goals[:2], goals[2], plan))

    def test_looks_at_a_finer_job(self):
        """Its slips that are twice as great show at places twice as far what the job shows."""
        draws = Draws(735)
        for job in drawn_jobs(736, 40, width=3, height=2):
            slips = drawn_slips(draws, job)
            looks = drawn_looks(draws, job, 2, slips)
            finer, twice = job.finer(2), finer_slips(slips, 2)
            moved = [((times(x, (2, 1)), times(y, (2, 1))), showing) for (x, y), showing in looks]
            if all(on_no_line(finer, twice, place) for place, _ in moved):
                self.assertTrue(does_fit(finer, moved, twice))
                goal = free_place(draws, job)
                far = (times(goal[0], (2, 1)), times(goal[1], (2, 1)))
                if on_no_line(finer, twice, far) and all(plate.bound == (1, 1) for plate in job):
                    self.assertEqual(sure_at(finer, moved, far), sure_at(job, looks, goal))

    def test_what_is_sure_without_looks_is_what_the_cell_shows(self):
        draws = Draws(737)
        for job in drawn_jobs(738, 60):
            cell = draws.one_of(cells_about(job))
            place = place_in(draws, cell)
            shown = tuple(showing for showing, _ in showings_at(job, cell))
            found = sure_at(job, (), place)
            self.assertLessEqual(set(found), set(shown))
            sure = surely_shows(job, cell)
            if sure is not None:
                self.assertEqual(found, (sure,))
            # Slips by any ratio bring what a whole slip shows, where the plate may slip a bit further.
            if all(min(plate.bound) > 0 for plate in job):
                self.assertIn(plain_showing(job, slips_over(job, draws, place), place), found)


def slips_over(job, draws, place):
    """Drawn slips with which the place lies on no line."""
    while True:
        slips = drawn_slips(draws, job)
        if on_no_line(job, slips, place):
            return slips


class TestChangesAndWishes(unittest.TestCase):
    def test_least_added_ink_is_a_least_choice(self):
        draws = Draws(739)
        met = 0
        for job in dense_jobs(740, 120, bounds=((0, 0), (1, 0))):
            region = [(1, 0), (1, 1)][:1 + draws.below(2)]
            inks = sorted({ink for lot in all_added(job, region) for ink in lot})
            if not 0 < len(inks) <= 5:
                continue
            met += 1
            found = find_mends(job, [("ink", *ink) for ink in inks], [("never bare", region)])
            lots = [tuple(inks[index] for index in choice) for choice in found.least]
            self.assertEqual(lots, list(all_added(job, region)))
            self.assertEqual(find_spoilers(job, [("ink", *ink) for ink in inks], [("never bare", region)]), ())
        self.assertGreater(met, 10)

    def test_least_barred_ink_is_the_first_of_the_least_choices(self):
        draws = Draws(741)
        for job in dense_jobs(742, 80, bounds=((0, 0), (1, 0))):
            free = free_ink(job)[:4]
            if not free:
                continue
            bars = [drawn_bar(draws, job)]
            found = find_mends(job, [("ink", *ink) for ink in free], [("never bare", [(1, 0)]), *bars])
            lots = [tuple(free[index] for index in choice) for choice in found.least]
            self.assertEqual(least_barred(job, [(1, 0)], bars, free),
                             tuple(lot for lot in lots if len(lot) == len(lots[0])))

    def test_wiping_needed_and_needless_ink(self):
        for job, region in deep_regions(743, 80):
            wishes = [("never bare", region)]
            needed = needed_ink(job, region)
            for plate, cell in ink_of(job):
                broken = broken_wish(job_after(job, [("wipe", plate, cell)]), wishes)
                self.assertEqual(broken is not None, (plate, cell) in needed)
                if broken is not None:
                    self.assertIsNone(broken_fault(job.without_ink(plate, cell), wishes, broken))

    def test_jobs_that_look_alike_grant_the_same(self):
        draws = Draws(745)
        for job in dense_jobs(746, 60, bounds=((0, 0), (1, 0))):
            wish = drawn_wish(draws, job)
            if wish[0] in ("never bare", "together", "widest", "shows", "never mixed"):
                self.assertEqual(broken_wish(least_job(job), [wish]) is None, broken_wish(job, [wish]) is None)

    def test_a_bench_whose_job_is_read_back(self):
        draws = Draws(747)
        for job in dense_jobs(748, 30, bounds=((0, 0), (1, 0))):
            bench = Bench(parse_job(job_text(job)))
            wishes = [drawn_wish(draws, job)]
            pool = [("ink", draws.below(len(job)), draws.one_of(job.field)) for _ in range(4)]
            for choice in find_mends(job, pool, wishes).least[:2]:
                text = job_text(bench.job)

                def mended(held):
                    for index in choice:
                        held.put(pool[index])
                    return parse_job(job_text(held.job)), held.broken_now(wishes)
                found, broken = bench.tried(mended)
                self.assertIsNone(broken)
                self.assertEqual(found, job_after(job, [pool[index] for index in choice]))
                self.assertEqual((job_text(bench.job), len(bench)), (text, 0))


class TestBareRunsAndRegions(unittest.TestCase):
    def test_bare_rectangles_are_regions_bare_at_once(self):
        draws = Draws(715)
        for job in drawn_jobs(716, 80):
            axis, window, band, _ = drawn_case(draws, job)
            if axis == 1:
                window, band = band, window
            cells = [(x, y) for x in range(*window) for y in range(*band)]
            sides = [as_ratio(high - low) for low, high in (window, band)]
            found = rectangle_for(job, window, band, "bare", sides[0], sides[1])
            self.assertEqual(found is not None, isinstance(all_bare(job, cells), BareAt))

    def test_bare_runs(self):
        draws = Draws(717)
        for job in drawn_jobs(718, 80):
            axis, window, band, _ = drawn_case(draws, job)
            rows = [[at_axis(axis, step, row) for step in range(*window)] for row in range(*band)]
            longest = any(isinstance(all_bare(job, row), BareAt) for row in rows)
            self.assertEqual(surely_inked(job, axis, window, band), not longest)
            self.assertEqual(width_of(job, axis, window, band, "bare") == window[1] - window[0], longest)
            cells = [cell for row in rows for cell in row]
            self.assertEqual(width_of(job, axis, window, band, "bare") > 0, bare_cells(job, cells) != ())
            self.assertEqual(greatest_rectangles(job, *((window, band) if axis == 0 else (band, window)), "bare") != (),
                             bare_cells(job, cells) != ())

    def test_more_ink_a_greater_bound_and_finer_cells(self):
        draws = Draws(719)
        for job in drawn_jobs(720, 60, width=3, height=2):
            axis = draws.below(2)
            window, band = ((0, 3), (0, 2)) if axis == 0 else ((0, 2), (0, 3))
            for kind in all_kinds(job):
                width = width_of(job, axis, window, band, kind)
                for plate in range(len(job)):
                    self.assertGreaterEqual(width_of(job.with_bound(plate, (1, 1)), axis,
                                                     window, band, kind), width)
                doubled = [tuple(2 * end for end in ends) for ends in (window, band)]
                self.assertEqual(width_of(job.finer(2), axis, *doubled, kind), 2 * width)
            free = [(plate, cell) for plate in range(len(job)) for cell in job.field
                    if cell not in job.plates[plate].cells]
            if free:
                more = job.with_ink(*draws.one_of(free))
                self.assertLessEqual(width_of(more, axis, window, band, "bare"),
                                     width_of(job, axis, window, band, "bare"))


class TestOnePiece(unittest.TestCase):
    def test_a_never_bare_region_lies_in_one_piece_at_all_samples(self):
        met = 0
        for job in some_jobs(721, 120):
            group = tuple(range(len(job)))
            deep = [cell for cell in job.field if not bare_cells(job, [cell])]
            for x, y in deep:
                for near in ((x + 1, y), (x, y + 1)):
                    if near in deep:
                        met += 1
                        for slips in apart_samples(job)[::3]:
                            places = [(as_ratio(number((20 * i + 1, 20))), as_ratio(number((20 * j + 1, 20))))
                                      for i, j in ((x, y), near)]
                            if all(on_no_line(job, slips, place) for place in places):
                                pieces = [piece_at(job, slips, group, place) for place in places]
                                self.assertIsNotNone(pieces[0])
                                self.assertEqual(pieces[0], pieces[1])
        self.assertGreater(met, 20)

    def test_sure_stretches_lie_in_one_piece(self):
        draws = Draws(722)
        met = 0
        for job in drawn_jobs(723, 150, width=4, height=2):
            slips = drawn_slips(draws, job)
            for plate in range(len(job)):
                for low, high in sure_stretches(job, 0, (-1, 5), (0, 1), ("shows", plate)):
                    places = [(as_ratio(low + number((1, 97))), (11, 23)), (as_ratio(high - number((1, 97))), (11, 23))]
                    if all(on_no_line(job, slips, place) for place in places):
                        met += 1
                        pieces = [piece_at(job, slips, (plate,), place) for place in places]
                        self.assertIsNotNone(pieces[0])
                        self.assertEqual(pieces[0], pieces[1])
        self.assertGreater(met, 20)

    def test_a_job_of_one_whole_plate_hangs_together(self):
        draws = Draws(724)
        for _ in range(5):
            bound = (draws.below(3), draws.below(3))
            job = Job(4, 3, [Plate(Job(4, 3, [Plate([])]).field, draws.below(2) == 0, bound)])
            self.assertEqual(always_together(job, (0,)), Together(1))


if __name__ == "__main__":
    unittest.main()
