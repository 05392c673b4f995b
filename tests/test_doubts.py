import unittest
from fractions import Fraction

from neverbare.doubts import Led, doubt_after, lead_to, sheets_left
from neverbare.drifts import Drift, Steady
from neverbare.errors import BadDoubt, BadHistory, BadSeen, CannotBe
from neverbare.steering import play_drift
from tests.helping import BAD_RATIOS, ODD_THINGS, ZERO, Draws, all_tuples, as_ratio, leaves_alone, number, raises
from tests.test_drifts import DRIFT, GRAINED, drawn_drift, within


def drawn_history(draws, drift, looks):
    """A history that comes by drawn moves and errors, and the slip behind its last correction."""
    low, high, fuzz, grain = [number(ratio) for ratio in (drift.low, drift.high, drift.fuzz, drift.grain)]
    slip = Fraction(draws.below(40) - 20, 3)
    history = []
    for look in range(looks):
        if look > 0:
            slip += sum(within(draws, low, high) for _ in range(drift.every))
        seen = slip + within(draws, -fuzz, fuzz)
        step = (draws.below(9) - 4) * grain if grain else Fraction(draws.below(9) - 4, 3)
        history.append((as_ratio(seen), as_ratio(step)))
        slip += step
    return history, slip


def check_led(case, drift, history, slip, found):
    """The history comes with what a Led tells, by sums of its own."""
    case.assertIsInstance(found, Led)
    all_tuples(case, (found.slip, found.moves))
    case.assertEqual(len(found.moves), drift.every * (len(history) - 1))
    now = number(found.slip)
    for look, (seen, step) in enumerate(history):
        if look > 0:
            for move in found.moves[(look - 1) * drift.every:look * drift.every]:
                case.assertTrue(number(drift.low) <= number(move) <= number(drift.high))
                now += number(move)
        case.assertLessEqual(abs(number(seen) - now), number(drift.fuzz))
        now += number(step)
    case.assertEqual(now, number(slip))


def plain_left(drift, doubt, most):
    """How many sheets are surely good, counted one by one up to a number."""
    low, high = number(doubt[0]), number(doubt[1])
    for sheet in range(most):
        low, high = low + number(drift.low), high + number(drift.high)
        if low < -number(drift.bound) or high > number(drift.bound):
            return sheet
    return most


class TestDoubtAfter(unittest.TestCase):
    def test_told_values(self):
        found = leaves_alone(self, doubt_after, DRIFT, [[(1, 2), (-1, 2)]])
        self.assertEqual(found, ((-1, 10), (1, 10)))
        all_tuples(self, found)
        # Ahead of the second look from -1/10 - 1/5 to 1/10 + 2/5, of which 3/10 to 1/2 is seen so.
        self.assertEqual(doubt_after(DRIFT, [((1, 2), (-1, 2)), ((2, 5), ZERO)]), ((3, 10), (1, 2)))
        self.assertEqual(doubt_after(DRIFT, (((1, 2), (-1, 2)), ((1, 2), (1, 1)))), ((7, 5), (3, 2)))
        self.assertEqual(doubt_after(DRIFT, [((1, 2), (-1, 2)), ((3, 5), ZERO)]), ((1, 2), (1, 2)))

    def test_drawn_histories(self):
        draws = Draws(921)
        for _ in range(300):
            drift = drawn_drift(draws)
            history, slip = drawn_history(draws, drift, 1 + draws.below(5))
            least, greatest = [number(ratio) for ratio in doubt_after(drift, history)]
            self.assertTrue(least <= slip <= greatest)
            self.assertLessEqual(greatest - least, 2 * number(drift.fuzz))
            # Just the slips from least to greatest can be.
            for part in (least, greatest, slip, (least + greatest) / 2, least + (greatest - least) / 7):
                check_led(self, drift, history, as_ratio(part), lead_to(drift, history, as_ratio(part)))
            for part in (least - Fraction(1, 1000), greatest + Fraction(1, 1000), least - 50, greatest + 50):
                self.assertIsNone(lead_to(drift, history, as_ratio(part)))

    def test_histories_of_plays(self):
        draws = Draws(922)
        for _ in range(60):
            drift = drawn_drift(draws)
            if number(drift.leeway) < 0:
                continue
            low, high, fuzz = [number(ratio) for ratio in (drift.low, drift.high, drift.fuzz)]
            moves = [as_ratio(within(draws, low, high)) for _ in range(4 * drift.every)]
            errors = [as_ratio(within(draws, -fuzz, fuzz)) for _ in range(4)]
            play = play_drift(drift, Steady(drift), (5, 3), moves, errors)
            history = list(zip(play.seen, play.corrections))
            doubt = doubt_after(drift, history)
            left = sheets_left(drift, doubt)
            self.assertTrue(left is None or left >= drift.every)

    def test_cannot_be(self):
        history = [((1, 2), (-1, 2)), ((3, 5), ZERO), ((-50, 1), ZERO), ((90, 1), ZERO)]
        for call in (doubt_after, lambda drift, told: lead_to(drift, told, None)):
            raises(self, CannotBe, {"index": 2}, call, DRIFT, history)
            raises(self, CannotBe, {"index": 1}, call, DRIFT, [history[0], ((61, 100), ZERO), ((90, 1), ZERO)])
            raises(self, CannotBe, {"index": 1}, call, DRIFT, [history[0], ((-41, 100), ZERO)])
        self.assertEqual(doubt_after(DRIFT, [history[0], ((-2, 5), ZERO)]), ((-3, 10), (-3, 10)))

    def test_what_was_seen_later_narrows_what_can_be_later_only(self):
        """The spans ahead of the looks are cut one after another, each by what was seen so far."""
        drift = Drift((9, 1), (-1, 1), (1, 1), 1, fuzz=(1, 1))
        self.assertEqual(doubt_after(drift, [(ZERO, ZERO), ((3, 1), ZERO), ((3, 1), ZERO)]), ((2, 1), (3, 1)))
        raises(self, CannotBe, {"index": 2}, doubt_after, drift, [(ZERO, ZERO), ((3, 1), ZERO), ((-1, 1), ZERO)])
        self.assertEqual(doubt_after(drift, [(ZERO, ZERO), ((3, 1), ZERO), (ZERO, ZERO)]), ((1, 1), (1, 1)))

    def test_errors(self):
        good = ((1, 2), ZERO)
        for call in (doubt_after, lambda drift, told: lead_to(drift, told, None)):
            for thing in ([], (), [good] * 21, {0: good}, *ODD_THINGS):
                raises(self, BadHistory, {"index": 0}, call, DRIFT, thing)
            for thing in ((), (ZERO,), (ZERO, ZERO, ZERO), {0: ZERO, 1: ZERO}, *ODD_THINGS,
                          *[(wrong, ZERO) for wrong in BAD_RATIOS], *[[ZERO, wrong] for wrong in BAD_RATIOS]):
                raises(self, BadHistory, {"index": 1}, call, DRIFT, [good, thing, None])
            raises(self, BadHistory, {"index": 1}, call, GRAINED, [((1, 3), (3, 2)), ((1, 3), (1, 3)), None])
            # A wrong history is refused even where an earlier couple cannot be.
            raises(self, BadHistory, {"index": 2}, call, DRIFT, [good, ((90, 1), ZERO), None])
        self.assertEqual(len(doubt_after(DRIFT, [good] * 20)), 2)


class TestLeadTo(unittest.TestCase):
    def test_told_values(self):
        found = leaves_alone(self, lead_to, DRIFT, [[(1, 2), (-1, 2)]], (1, 10))
        self.assertEqual((found.slip, found.moves), ((3, 5), ()))
        history = [((1, 2), (-1, 2)), ((3, 5), ZERO)]
        found = lead_to(DRIFT, history, (1, 2))
        self.assertEqual((found.slip, found.moves), ((3, 5), ((1, 5), (1, 5))))
        self.assertIsNone(lead_to(DRIFT, history, (49, 100)))
        self.assertIsNone(lead_to(DRIFT, history, (51, 100)))
        self.assertEqual(vars(Led(1, [2])), {"slip": 1, "moves": [2]})

    def test_errors(self):
        for thing in BAD_RATIOS:
            raises(self, BadSeen, {}, lead_to, DRIFT, [((1, 2), ZERO)], thing)
        raises(self, CannotBe, {"index": 1}, lead_to, DRIFT, [((1, 2), ZERO), ((90, 1), ZERO)], None)


class TestSheetsLeft(unittest.TestCase):
    def test_told_values(self):
        self.assertEqual(leaves_alone(self, sheets_left, DRIFT, [ZERO, ZERO]), 5)
        self.assertEqual(sheets_left(DRIFT, ((-1, 1), ZERO)), 0)
        self.assertEqual(sheets_left(DRIFT, ((-9, 10), ZERO)), 1)
        self.assertEqual(sheets_left(DRIFT, (ZERO, (4, 5))), 1)
        self.assertEqual(sheets_left(DRIFT, (ZERO, (81, 100))), 0)
        still = Drift((1, 1), ZERO, ZERO, 1)
        self.assertIsNone(sheets_left(still, ((-1, 1), (1, 1))))
        self.assertEqual(sheets_left(still, ((-1, 1), (101, 100))), 0)
        self.assertEqual(sheets_left(still, ((-2, 1), (1, 1))), 0)
        # Too many to be counted one by one.
        slow = Drift((1, 1), ZERO, (1, 10 ** 90), 1)
        self.assertEqual(sheets_left(slow, (ZERO, ZERO)), 10 ** 90)
        self.assertEqual(sheets_left(Drift((1, 1), (-2, 10 ** 90 + 1), ZERO, 1), (ZERO, ZERO)), 10 ** 90 // 2)

    def test_a_doubt_beyond_the_bound_that_comes_back(self):
        back = Drift((1, 1), (-1, 1), (-1, 1), 1)
        self.assertEqual(sheets_left(back, ((2, 1), (2, 1))), 3)
        self.assertEqual(sheets_left(back, ((2, 1), (5, 2))), 0)
        self.assertEqual(sheets_left(Drift((1, 1), (1, 1), (1, 1), 1), ((-2, 1), (-1, 1))), 2)

    def test_by_counting(self):
        draws = Draws(923)
        counts = set()
        for _ in range(400):
            drift = drawn_drift(draws)
            low = Fraction(draws.below(30) - 15, 4)
            doubt = (as_ratio(low), as_ratio(low + Fraction(draws.below(5), 4)))
            found = sheets_left(drift, doubt)
            plain = plain_left(drift, doubt, 200)
            self.assertEqual(200 if found is None else found, plain)
            if found is None:
                self.assertEqual((drift.low, drift.high), (ZERO, ZERO))
            counts.add(found)
        self.assertLessEqual({0, 1, 2, 3}, counts)

    def test_errors(self):
        for thing in ((), (ZERO,), (ZERO, ZERO, ZERO), ((1, 1), ZERO), [ZERO, (-1, 100)], {0: ZERO, 1: ZERO},
                      *ODD_THINGS, *[(wrong, (9, 1)) for wrong in BAD_RATIOS], *[(ZERO, wrong) for wrong in BAD_RATIOS]):
            raises(self, BadDoubt, {}, sheets_left, DRIFT, thing)


if __name__ == "__main__":
    unittest.main()
