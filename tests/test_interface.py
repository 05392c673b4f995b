"""The names, arguments and places of the interface, and that no module brings in what it should define."""

import importlib
import inspect
import unittest
from pathlib import Path

INTERFACE = {
    "ratios": """is_whole(thing, low=None, high=None); is_ratio(thing); make_ratio(top, bottom=1); plus(one, other);
        minus(one, other); times(one, other); over(one, other); negative(one); broken_of(one); compare(one, other);
        floor_of(one); sum_of(ratios); least_of(ratios); greatest_of(ratios); ratio_text(one)""",
    "cells": """is_cell(thing); check_cells(cells); check_reach(reach); check_axis(axis); near_cells(cell, reach);
        grown_cells(cells, reach); shrunk_cells(cells, reach)""",
    "jobs": "check_plate(job, plate)",
    "jobtext": """job_text(job); slips_text(slips); cells_text(cells); parse_job(text); parse_slips(text);
        parse_cells(text)""",
    "slips": """check_slips(job, slips); is_whole_slips(job, slips); all_whole_slips(job); check_place(place);
        middle_of_cell(cell); nearest_slips(job, slips); mirrored_slips(slips, axis); turned_slips(slips);
        finer_slips(slips, size)""",
    "kinds": "check_kind(job, kind); is_of_kind(showing, kind)",
    "shows": """plate_cell(job, slips, plate, place); on_plates(job, slips, place); showing_of(job, on);
        shown_at(job, slips, place); whole_alike(job, slips, place)""",
    "sheets": """sheet_of(job, slips); table_of(job, slips); rectangle_at(sheet, place); sheet_at(sheet, place)""",
    "pictures": "parts_at(one, other); same_picture(one, other); plain_of(sheet); areas_of(sheet)",
    "sheettext": "sheet_text(sheet); parse_sheet(text)",
    "places": """check_sheet_cell(cell); can_be_on(job, plate, cell); can_be_off(job, plate, cell);
        showings_at(job, cell); slips_for(job, cell, showing); surely_shows(job, cell); can_show(job, cell, kind)""",
    "regions": """check_region(region); never_bare(job, region); bare_cells(job, region);
        deep_fault(job, region, deep); bare_fault(job, region, bare)""",
    "mixing": "never_mixed(job, region); unmixed_fault(job, region, unmixed)",
    "jointly": """all_bare(job, region); covered_fault(job, region, covered); picture_at(job, slips, region);
        all_pictures(job, region); slips_for_picture(job, region, picture)""",
    "stands": """row_of(slips, axis); check_slip_row(row); row_from(stand); shares_of(row); stand_of(row);
        check_stand(stand); stand_from(corners); check_bounds(bounds); all_stands(bounds); count_stands(bounds);
        corners_of(stand); lies_at_edge(one, other)""",
    "passing": "stands_between(row, other); apart_stand(one, other); apart_of(row); all_apart(bounds)",
    "spots": """spot_at(row, ratio); middle_of(row, spot); cells_under(stand, spot);
        slips_for_spots(job, slips, spot_x, spot_y); stands_of(job, slips); check_stands(job, stands);
        picture_of(job, stands, span_x, span_y); table_at(job, stands)""",
    "areas": """area_at(job, slips, region, kind); whole_parts(job, slips, region, kind);
        greatest_area(job, region, kind); least_area(job, region, kind); greatest_fault(job, region, kind, extent);
        least_fault(job, region, kind, extent); slips_of_area(job, region, kind, area)""",
    "unlike": "check_comparable(one, other); check_order(job, order); shown_by(job, order, slips, place)",
    "unseen": """unseen_inks(job); seen_at(job, plate, cell); cover_of(job, plate, cell);
        seen_fault(job, plate, cell, seen); cover_fault(job, plate, cell, rows)""",
    "leastjob": """least_job(job); greatest_job(job); spare_inks(job); count_alike(job); alike_jobs(job);
        is_between(low, job, high)""",
    "alike": "looks_alike(one, other); unlike_fault(one, other, unlike)",
    "exchange": """orders_alike(job); may_exchange(job, plate); exchange_fault(job, plate, unlike);
        way_of_exchanges(job, order); way_fault(job, order, way); may_switch(job, plate);
        switch_fault(job, plate, unlike)""",
    "runs": """check_window(window, what='window'); runs_at(job, slips, axis, across, window, kind);
        run_fault(job, axis, window, kind, run); widest_at(job, slips, axis, window, band, kind)""",
    "widest": "widest_run(job, axis, window, band, kind); widest_fault(job, axis, window, band, kind, run)",
    "pushing": """carry_run(job, axis, window, kind, run, push); pushes_of(job, axis, window, kind, run);
        whole_run(job, axis, window, kind, run)""",
    "rectangles": """rectangle_fault(job, window, band, kind, rectangle);
        whole_rectangle(job, window, band, kind, rectangle); greatest_rectangles(job, window, band, kind);
        rectangle_for(job, window, band, kind, width, height)""",
    "sure": """sure_stretches(job, axis, window, band, kind); surely_inked(job, axis, window, band);
        narrowest_line(job, axis, window, band, kind); narrow_fault(job, axis, window, band, kind, narrow)""",
    "pieces": """check_group(job, group); pieces_at(job, slips, group); holes_at(job, slips, group);
        piece_at(job, slips, group, place)""",
    "ways": """way_between(job, slips, group, place, other);
        between_fault(job, slips, group, place, other, way)""",
    "samples": "apart_at(job, slips); apart_samples(job)",
    "together": """always_together(job, group); parted_fault(job, group, parted); counts_at_all(job, group);
        piece_counts(job, group); hole_counts(job, group); holding_slips(job, group, plate)""",
    "touching": "touch_at(job, slips, one, other); may_touch(job, one, other); must_touch(job, one, other)",
    "needs": """check_lot(job, lot); ink_of(job); with_lot(job, lot); without_lot(job, lot);
        lacking_cells(job, plate, cell); ink_for(job, region, choice); helping_ink(job, region)""",
    "losing": "bearable_losses(job, region); breaking_lot(job, region)",
    "adding": """all_added(job, region, *, losses=0); least_added(job, region, *, losses=0);
        added_fault(job, region, lot, *, losses=0)""",
    "covering": "most_covered(job, region, many)",
    "needless": "needed_ink(job, region); needless_ink(job, region); strip_job(job, region)",
    "keeping": "all_kept(job, region); least_kept(job, region)",
    "bars": "read_bar(job, bar); bar_holds(job, bar); check_bars(job, bars)",
    "barred": "least_barred(job, region, bars, candidates=None)",
    "looks": "told_by(job, showing); check_looks(job, looks)",
    "rooms": "does_fit(job, looks, slips); rooms_for(job, looks); find_slips(job, looks)",
    "surely": "sure_at(job, looks, place); two_slips(job, looks, place); which_look(job, looks, places)",
    "plans": "plan_for(job, looks, places, goal); plan_fault(job, looks, places, goal, plan)",
    "steering": "beat_steerer(drift, steerer); play_drift(drift, steerer, slip, moves, errors)",
    "doubts": "doubt_after(drift, history); lead_to(drift, history, slip); sheets_left(drift, doubt)",
    "changes": "check_changes(job, changes); job_after(job, changes)",
    "wishes": "check_wishes(job, wishes); broken_wish(job, wishes); broken_fault(job, wishes, broken)",
    "mends": """find_mends(job, pool, wishes); mends_fault(job, pool, wishes, mends);
        find_spoilers(job, pool, wishes)""",
}

CLASSES = {
    ("plates", "Plate"): """__init__(self, cells, hiding=False, bound=(1, 1)); __len__(self);
        __contains__(self, thing); __eq__(self, other)""",
    ("jobs", "Job"): """__init__(self, width, height, plates); __len__(self); __iter__(self); __eq__(self, other);
        with_ink(self, plate, cell); without_ink(self, plate, cell); with_bound(self, plate, bound);
        with_hiding(self, plate, hiding); exchanged(self, plate); mirrored(self, axis); turned(self);
        finer(self, size)""",
    ("sheets", "Sheet"): "__init__(self, xs, ys, rows); moved(self, by); __eq__(self, other)",
    ("regions", "Deep"): "__init__(self, rows); __eq__(self, other)",
    ("regions", "Bare"): "__init__(self, cell, slips); __eq__(self, other)",
    ("mixing", "Unmixed"): "__init__(self, rows); __eq__(self, other)",
    ("mixing", "Mixed"): "__init__(self, cell, slips); __eq__(self, other)",
    ("jointly", "BareAt"): "__init__(self, slips); __eq__(self, other)",
    ("jointly", "Covered"): "__init__(self, plate, rows); __eq__(self, other)",
    ("areas", "Extent"): "__init__(self, size, slips); __eq__(self, other)",
    ("unlike", "Unlike"): "__init__(self, slips, place, showing, other); __eq__(self, other)",
    ("unseen", "Seen"): "__init__(self, slips, place); __eq__(self, other)",
    ("runs", "Run"): "__init__(self, slips, across, low, high); __eq__(self, other)",
    ("pushing", "Push"): "__init__(self, part, by); __eq__(self, other)",
    ("rectangles", "Rectangle"): "__init__(self, slips, low, high); __eq__(self, other)",
    ("sure", "Narrow"): "__init__(self, width, slips, across); __eq__(self, other)",
    ("together", "Together"): "__init__(self, samples); __eq__(self, other)",
    ("together", "Parted"): "__init__(self, slips, place, other); __eq__(self, other)",
    ("together", "Counts"): "__init__(self, least, least_slips, most, most_slips); __eq__(self, other)",
    ("covering", "Covering"): "__init__(self, covered, lots); __eq__(self, other)",
    ("rooms", "Rooms"): "__init__(self, rows)",
    ("plans", "Known"): "__init__(self, showing)",
    ("plans", "Ask"): "__init__(self, index, answers)",
    ("plans", "Untold"): "__init__(self, slips, other)",
    ("drifts", "Drift"): """__init__(self, bound, low, high, every, *, fuzz=(0, 1), grain=(0, 1));
        __eq__(self, other)""",
    ("drifts", "Steady"): "__init__(self, drift); __call__(self, seen)",
    ("steering", "Beaten"): "__init__(self, slip, seen, moves, sheet)",
    ("steering", "Play"): "__init__(self, seen, corrections, slips, out)",
    ("doubts", "Led"): "__init__(self, slip, moves)",
    ("wishes", "Broken"): "__init__(self, index, why)",
    ("mends", "Mends"): "__init__(self, least, losses)",
    ("mends", "Spoiler"): "__init__(self, choice, added, broken)",
    ("bench", "Bench"): """__init__(self, job); __len__(self); __iter__(self); put(self, change);
        take_back(self, number); broken_now(self, wishes); trial(self); tried(self, call)""",
}


def told(text):
    rows = [part.strip() for part in text.split(";")]
    return {row[:row.index("(")]: row[row.index("("):] for row in rows}


class TestInterface(unittest.TestCase):
    def test_functions(self):
        for module, text in INTERFACE.items():
            found = vars(importlib.import_module(f"neverbare.{module}"))
            for name, arguments in told(text).items():
                self.assertEqual(found[name].__module__, f"neverbare.{module}", name)
                self.assertEqual(str(inspect.signature(found[name])), arguments, name)

    def test_classes(self):
        for (module, name), text in CLASSES.items():
            found = vars(importlib.import_module(f"neverbare.{module}"))[name]
            self.assertEqual(found.__module__, f"neverbare.{module}", name)
            for method, arguments in told(text).items():
                self.assertIn(method, vars(found), name)
                self.assertEqual(str(inspect.signature(vars(found)[method])), arguments, (name, method))

    def test_properties_and_static_methods(self):
        plate = importlib.import_module("neverbare.plates").Plate
        for name in ("grown", "deep"):
            self.assertIsInstance(vars(plate)[name], property)
        self.assertIsInstance(vars(plate)["from_rows"], staticmethod)
        self.assertEqual(str(inspect.signature(plate.from_rows)), "(rows, hiding=False, bound=(1, 1))")
        for module, name, told_property in (("jobs", "Job", "field"), ("runs", "Run", "length"),
                                            ("rectangles", "Rectangle", "sides"), ("plans", "Known", "depth"),
                                            ("plans", "Ask", "depth"), ("drifts", "Drift", "leeway"),
                                            ("drifts", "Steady", "aim"), ("mends", "Mends", "needed")):
            found = vars(importlib.import_module(f"neverbare.{module}"))[name]
            self.assertIsInstance(vars(found)[told_property], property)

    def test_every_module_of_the_interface_is_there(self):
        folder = Path(importlib.import_module("neverbare").__file__).parent
        found = {path.stem for path in folder.iterdir() if path.name not in ("__init__.py", "__pycache__")}
        self.assertEqual(found, set(INTERFACE) | {module for module, _ in CLASSES} | {"errors"})

    def test_generators(self):
        for module, name in (("slips", "all_whole_slips"), ("stands", "all_stands"), ("leastjob", "alike_jobs"),
                             ("adding", "all_added"), ("keeping", "all_kept")):
            self.assertTrue(inspect.isgeneratorfunction(
                vars(importlib.import_module(f"neverbare.{module}"))[name]))


if __name__ == "__main__":
    unittest.main()
