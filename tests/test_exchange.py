import unittest
from itertools import permutations

from neverbare.errors import BadOrder, NoPlate
from neverbare.exchange import (
    exchange_fault, may_exchange, may_switch, orders_alike, switch_fault, way_fault, way_of_exchanges,
)
from neverbare.jobs import Job
from neverbare.places import is_deep, is_grown
from neverbare.plates import Plate
from neverbare.slips import check_slips
from neverbare.unlike import Unlike, shown_by
from tests.helping import (
    BAD_PLACES, BAD_PLATES, BAD_SLIPS, EXAMPLE, ODD_THINGS, STILL, ZERO, Draws, all_tuples, cells_about, drawn_jobs,
    drawn_place, drawn_slips, leaves_alone, listed, on_no_line, raises, refuses, whole_slips,
)
from tests.test_leastjob import looks
from tests.test_unlike import BAD_ORDERS

PLACE = ((5, 2), (1, 2))
FREE = Job(3, 1, [Plate([(0, 0)], False, (1, 0)), Plate([(0, 0)], False, (1, 0)), Plate([(2, 0)], False, (0, 0))])


def on_sets(job):
    """All choices of plates that are on over the middle of a sheet cell at whole slips."""
    return {
        tuple(number for number, plate in enumerate(job.plates)
              if (cell[0] - slips[number][0][0], cell[1] - slips[number][1][0]) in plate.cells)
        for slips in whole_slips(job) for cell in cells_about(job)
    }


def plain_shown(job, order, on):
    shown = []
    for plate in reversed(order):
        if plate in on:
            shown.append(plate)
            if job.plates[plate].hiding:
                break
    return tuple(sorted(shown))


def plain_orders(job):
    own = tuple(range(len(job)))
    sets = on_sets(job)
    return tuple(order for order in permutations(own)
                 if all(plain_shown(job, order, on) == plain_shown(job, own, on) for on in sets))


def is_under(job, cell, plate):
    return any(other.hiding and is_deep(other, cell) for other in job.plates[plate + 1:])


class TestOrdersAlike(unittest.TestCase):
    def test_told_values(self):
        self.assertEqual(leaves_alone(self, orders_alike, EXAMPLE), ((0, 1),))
        self.assertEqual(orders_alike(FREE), tuple(permutations((0, 1, 2))))
        all_tuples(self, orders_alike(FREE))
        self.assertEqual(orders_alike(Job(1, 1, [Plate([(0, 0)], True)])), ((0,),))

    def test_all_whole_slips(self):
        draws = Draws(481)
        for job in drawn_jobs(482, 100):
            found = orders_alike(job)
            self.assertEqual(found, plain_orders(job))
            self.assertIn(tuple(range(len(job))), found)
            slips, place = drawn_slips(draws, job), drawn_place(draws, job)
            if on_no_line(job, slips, place):
                self.assertEqual(len({shown_by(job, order, slips, place) for order in found}), 1)
            self.assertEqual(orders_alike(job.mirrored(0)), found)
            self.assertEqual(orders_alike(job.turned()), found)
            if job.width < 4:
                self.assertEqual(orders_alike(job.finer(2)), found)


class TestMayExchange(unittest.TestCase):
    def test_example(self):
        found = leaves_alone(self, may_exchange, EXAMPLE, 0)
        self.assertIsInstance(found, Unlike)
        self.assertEqual((found.showing, found.other), ((1,), (0, 1)))
        self.assertIsNone(exchange_fault(EXAMPLE, 0, found))
        self.assertIsNone(may_exchange(FREE, 0))
        self.assertIsNone(may_exchange(FREE, 1))

    def test_as_told(self):
        for job in drawn_jobs(483, 120):
            orders = orders_alike(job)
            for plate in range(len(job) - 1):
                found = may_exchange(job, plate)
                order = list(range(len(job)))
                order[plate], order[plate + 1] = plate + 1, plate
                self.assertEqual(found is None, tuple(order) in orders)
                clear = not job.plates[plate].hiding and not job.plates[plate + 1].hiding
                self.assertEqual(found is None, clear or all(
                    is_under(job, cell, plate + 1) for cell in cells_about(job)
                    if is_grown(job.plates[plate], cell) and is_grown(job.plates[plate + 1], cell)))
                if found is not None:
                    self.assertIsNone(exchange_fault(job, plate, found))
                    self.assertEqual(check_slips(job, found.slips), found.slips)
                    self.assertTrue(all(ratio[1] == 1 for slip in found.slips for ratio in slip))
                    all_tuples(self, (found.slips, found.place, found.showing, found.other))

    def test_errors(self):
        for call, more in ((may_exchange, ()), (exchange_fault, (None,))):
            good = [EXAMPLE, 0, *more]
            refuses(self, call, good, 1, NoPlate, BAD_PLATES)
            raises(self, NoPlate, {"plate": 1}, call, EXAMPLE, 1, *more)
            raises(self, NoPlate, {"plate": 2}, call, FREE, 2, *more)
            raises(self, NoPlate, {"plate": 0}, call, Job(1, 1, [Plate([])]), 0, *more)


class TestExchangeFault(unittest.TestCase):
    def fault(self, *parts):
        return exchange_fault(EXAMPLE, 0, Unlike(*parts))

    def test_right(self):
        self.assertIsNone(self.fault((STILL, STILL), PLACE, (1,), (0, 1)))
        self.assertIsNone(self.fault((((1, 2), ZERO), STILL), ((8, 3), (1, 3)), (1,), (0, 1)))

    def test_wrong(self):
        good = (STILL, STILL)
        for thing, _ in BAD_SLIPS:
            self.assertEqual(self.fault(thing, None, None, None), "slips")
        for thing, _ in BAD_PLACES:
            self.assertEqual(self.fault(good, thing, None, None), "place")
        self.assertEqual(self.fault(good, ((2, 1), (1, 2)), None, None), "line")
        for showing in ((), (0,), (0, 1), (True,), *ODD_THINGS):
            self.assertEqual(self.fault(good, PLACE, showing, None), "showing")
        for other in ((), (1,), (0,), (False, True), (False, 1), *ODD_THINGS):
            self.assertEqual(self.fault(good, PLACE, (1,), other), "other")
        self.assertEqual(self.fault(good, ((11, 2), (1, 2)), (1,), (1,)), "alike")


class TestWays(unittest.TestCase):
    def test_told_values(self):
        self.assertEqual(leaves_alone(self, way_of_exchanges, EXAMPLE, [0, 1]), ((0, 1),))
        self.assertIsNone(way_of_exchanges(EXAMPLE, (1, 0)))
        all_tuples(self, way_of_exchanges(EXAMPLE, [0, 1]))

    def test_each_alike_order_is_reached(self):
        for job in [job for job in drawn_jobs(484, 300) if len(job) == 3]:
            orders = orders_alike(job)
            for order in permutations((0, 1, 2)):
                way = way_of_exchanges(job, order)
                self.assertEqual(way is not None, order in orders)
                if way is not None:
                    self.assertIsNone(way_fault(job, order, way))
                    self.assertIsNone(way_fault(job, list(order), listed(way) if len(way) > 2 else list(way)))
                    self.assertLessEqual(len(way), len(orders))

    def test_wrong_ways(self):
        still = (0, 0)
        hidden = Job(3, 1, [Plate([(0, 0)], False, still), Plate([(0, 0)], True, still), Plate([(2, 0)], True, still)])
        self.assertEqual(orders_alike(hidden), ((0, 1, 2), (0, 2, 1), (2, 0, 1)))
        own = (0, 1, 2)
        for way in ((), [], ((0, 2, 1),), ((False, 1, 2),), (None,), {own: own}, {0: own}, ((0, 1),), *ODD_THINGS):
            self.assertEqual(way_fault(hidden, own, way), "begin")
        for thing in ((0, 2, 2), (0, 2), (0, 2, True), *ODD_THINGS):
            self.assertEqual(way_fault(hidden, (0, 2, 1), (own, thing, None)), "order")
        for thing in (own, (2, 0, 1), (2, 1, 0), [1, 2, 0]):
            self.assertEqual(way_fault(hidden, (0, 2, 1), (own, thing, None)), "step")
        self.assertEqual(way_fault(hidden, (1, 0, 2), (own, [1, 0, 2], None)), "alike")
        self.assertEqual(way_fault(hidden, (0, 2, 1), (own,)), "end")
        self.assertEqual(way_fault(hidden, (1, 0, 2), (own,)), "end")
        self.assertEqual(way_fault(hidden, own, (own, (0, 2, 1))), "end")
        self.assertIsNone(way_fault(hidden, own, ([0, 1, 2], (0, 2, 1), (0, 1, 2))))
        self.assertIsNone(way_fault(hidden, [2, 0, 1], [own, (0, 2, 1), (2, 0, 1)]))
        self.assertEqual(way_of_exchanges(hidden, [2, 0, 1]), (own, (0, 2, 1), (2, 0, 1)))

    def test_errors(self):
        refuses(self, way_of_exchanges, [EXAMPLE, None], 1, BadOrder, BAD_ORDERS)
        refuses(self, way_fault, [EXAMPLE, None, None], 1, BadOrder, BAD_ORDERS)


class TestMaySwitch(unittest.TestCase):
    def test_example(self):
        found = leaves_alone(self, may_switch, EXAMPLE, 1)
        self.assertEqual((found.showing, found.other), ((1,), (0, 1)))
        self.assertIsNone(switch_fault(EXAMPLE, 1, found))
        self.assertIsNone(may_switch(EXAMPLE, 0))

    def test_as_told(self):
        for job in drawn_jobs(485, 120):
            for plate in range(len(job)):
                switched = job.with_hiding(plate, not job.plates[plate].hiding)
                found = may_switch(job, plate)
                self.assertEqual(found is None, looks(switched) == looks(job))
                self.assertEqual(found is None, all(
                    is_under(job, cell, plate) for cell in cells_about(job) if is_grown(job.plates[plate], cell)
                    and any(is_grown(low, cell) for low in job.plates[:plate])))
                if found is not None:
                    self.assertIsNone(switch_fault(job, plate, found))
                    self.assertTrue(all(ratio[1] == 1 for slip in found.slips for ratio in slip))
                    all_tuples(self, (found.slips, found.place, found.showing, found.other))

    def test_wrong(self):
        def fault(*parts):
            return switch_fault(EXAMPLE, 1, Unlike(*parts))
        good = (STILL, STILL)
        for thing, _ in BAD_SLIPS:
            self.assertEqual(fault(thing, None, None, None), "slips")
        for thing, _ in BAD_PLACES:
            self.assertEqual(fault(good, thing, None, None), "place")
        self.assertEqual(fault(good, ((2, 1), (1, 2)), None, None), "line")
        self.assertEqual(fault(good, PLACE, (0, 1), None), "showing")
        self.assertEqual(fault(good, PLACE, (1,), (1,)), "other")
        self.assertEqual(fault(good, ((11, 2), (1, 2)), (1,), (1,)), "alike")
        self.assertIsNone(fault(good, PLACE, (1,), (0, 1)))

    def test_errors(self):
        refuses(self, may_switch, [EXAMPLE, 0], 1, NoPlate, BAD_PLATES)
        refuses(self, switch_fault, [EXAMPLE, 0, None], 1, NoPlate, BAD_PLATES)


if __name__ == "__main__":
    unittest.main()
