"""The names, arguments and places of the interface, and that no module brings in what it should define."""

import importlib
import inspect
import unittest

INTERFACE = {
    "ratios": """is_whole(thing, low=None, high=None); is_ratio(thing); make_ratio(top, bottom=1); plus(one, other);
        minus(one, other); times(one, other); over(one, other); negative(one); broken_of(one); compare(one, other);
        floor_of(one); sum_of(ratios); least_of(ratios); greatest_of(ratios); ratio_text(one)""",
    "cells": """is_cell(thing); check_cells(cells); check_reach(reach); check_axis(axis); near_cells(cell, reach);
        grown_cells(cells, reach); shrunk_cells(cells, reach)""",
    "jobs": "check_plate(job, plate)",
    "jobtext": """job_text(job); slips_text(slips); cells_text(cells); parse_job(text); parse_slips(text);
        parse_cells(text)""",
    "slips": """check_slips(job, slips); is_whole_slips(job, slips); all_whole_slips(job); check_place(place);
        middle_of_cell(cell); nearest_slips(job, slips); mirrored_slips(slips, axis); turned_slips(slips);
        finer_slips(slips, size)""",
    "kinds": "check_kind(job, kind); is_of_kind(showing, kind)",
    "shows": """plate_cell(job, slips, plate, place); on_plates(job, slips, place); showing_of(job, on);
        shown_at(job, slips, place); whole_alike(job, slips, place)""",
    "sheets": """sheet_of(job, slips); table_of(job, slips); rectangle_at(sheet, place); sheet_at(sheet, place)""",
    "pictures": "parts_at(one, other); same_picture(one, other); plain_of(sheet); areas_of(sheet)",
    "sheettext": "sheet_text(sheet); parse_sheet(text)",
    "places": """check_sheet_cell(cell); can_be_on(job, plate, cell); can_be_off(job, plate, cell);
        showings_at(job, cell); slips_for(job, cell, showing); surely_shows(job, cell); can_show(job, cell, kind)""",
    "regions": """check_region(region); never_bare(job, region); bare_cells(job, region);
        deep_fault(job, region, deep); bare_fault(job, region, bare)""",
    "mixing": "never_mixed(job, region); unmixed_fault(job, region, unmixed)",
    "jointly": """all_bare(job, region); covered_fault(job, region, covered); picture_at(job, slips, region);
        all_pictures(job, region); slips_for_picture(job, region, picture)""",
    "stands": """row_of(slips, axis); check_slip_row(row); row_from(stand); shares_of(row); stand_of(row);
        check_stand(stand); stand_from(corners); check_bounds(bounds); all_stands(bounds); count_stands(bounds);
        corners_of(stand); lies_at_edge(one, other)""",
    "passing": "stands_between(row, other); apart_stand(one, other); apart_of(row); all_apart(bounds)",
}

CLASSES = {
    ("plates", "Plate"): """__init__(self, cells, hiding=False, bound=(1, 1)); __len__(self);
        __contains__(self, thing); __eq__(self, other)""",
    ("jobs", "Job"): """__init__(self, width, height, plates); __len__(self); __iter__(self); __eq__(self, other);
        with_ink(self, plate, cell); without_ink(self, plate, cell); with_bound(self, plate, bound);
        with_hiding(self, plate, hiding); exchanged(self, plate); mirrored(self, axis); turned(self);
        finer(self, size)""",
    ("sheets", "Sheet"): "__init__(self, xs, ys, rows); moved(self, by); __eq__(self, other)",
    ("regions", "Deep"): "__init__(self, rows); __eq__(self, other)",
    ("regions", "Bare"): "__init__(self, cell, slips); __eq__(self, other)",
    ("mixing", "Unmixed"): "__init__(self, rows); __eq__(self, other)",
    ("mixing", "Mixed"): "__init__(self, cell, slips); __eq__(self, other)",
    ("jointly", "BareAt"): "__init__(self, slips); __eq__(self, other)",
    ("jointly", "Covered"): "__init__(self, plate, rows); __eq__(self, other)",
}


def told(text):
    rows = [part.strip() for part in text.split(";")]
    return {row[:row.index("(")]: row[row.index("("):] for row in rows}


class TestInterface(unittest.TestCase):
    def test_functions(self):
        for module, text in INTERFACE.items():
            found = vars(importlib.import_module(f"neverbare.{module}"))
            for name, arguments in told(text).items():
                self.assertEqual(found[name].__module__, f"neverbare.{module}", name)
                self.assertEqual(str(inspect.signature(found[name])), arguments, name)

    def test_classes(self):
        for (module, name), text in CLASSES.items():
            found = vars(importlib.import_module(f"neverbare.{module}"))[name]
            self.assertEqual(found.__module__, f"neverbare.{module}", name)
            for method, arguments in told(text).items():
                self.assertIn(method, vars(found), name)
                self.assertEqual(str(inspect.signature(vars(found)[method])), arguments, (name, method))

    def test_properties_and_static_methods(self):
        plate = importlib.import_module("neverbare.plates").Plate
        for name in ("grown", "deep"):
            self.assertIsInstance(vars(plate)[name], property)
        self.assertIsInstance(vars(plate)["from_rows"], staticmethod)
        self.assertEqual(str(inspect.signature(plate.from_rows)), "(rows, hiding=False, bound=(1, 1))")
        self.assertIsInstance(vars(importlib.import_module("neverbare.jobs").Job)["field"], property)

    def test_generators(self):
        for module, name in (("slips", "all_whole_slips"), ("stands", "all_stands")):
            self.assertTrue(inspect.isgeneratorfunction(
                vars(importlib.import_module(f"neverbare.{module}"))[name]))


if __name__ == "__main__":
    unittest.main()
