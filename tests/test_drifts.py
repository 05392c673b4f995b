import unittest
from fractions import Fraction

from neverbare.drifts import Drift, Steady
from neverbare.errors import BadDrift, BadSeen, CannotStay
from tests.helping import BAD_RATIOS, ODD_THINGS, ZERO, Draws, as_ratio, number, raises

# The drift of [9.16].
DRIFT = Drift((1, 1), (-1, 10), (1, 5), 2, fuzz=(1, 10))
GRAINED = Drift((1, 1), (-1, 10), (1, 5), 2, fuzz=(1, 10), grain=(1, 2))
NAMES = ["bound", "low", "high", "every", "fuzz", "grain"]


def within(draws, low, high):
    """A drawn fraction from low to high; often an end."""
    kind = draws.below(4)
    if kind < 2:
        return (low, high)[kind]
    return low + (high - low) * Fraction(draws.below(7), 6)


def drawn_drift(draws):
    """A drift of drawn numbers, of which about as many can stay as cannot."""
    low = Fraction(draws.below(9) - 6, draws.one_of((1, 2, 3, 5)))
    high = low + Fraction(draws.below(5), draws.one_of((1, 2, 4)))
    grain = draws.one_of((0, 0, Fraction(1, 2), Fraction(1, 3), Fraction(2, 5), 1))
    bound = Fraction(draws.below(30), draws.one_of((2, 3, 4)))
    return Drift(as_ratio(bound), as_ratio(low), as_ratio(high), 1 + draws.below(4),
                 fuzz=as_ratio(Fraction(draws.below(3), 4)), grain=as_ratio(grain))


def plain_leeway(drift):
    low, high = number(drift.low), number(drift.high)
    most, least = max(high, drift.every * high), min(low, drift.every * low)
    return 2 * number(drift.bound) - 2 * number(drift.fuzz) - most + least - number(drift.grain)


def play_long(case, drift, steerer, draws, looks):
    """Plays drawn moves and errors, sums of its own; returns whether the slip stays."""
    bound, fuzz, low, high = [number(ratio) for ratio in (drift.bound, drift.fuzz, drift.low, drift.high)]
    slip = Fraction(draws.below(200) - 100, 7)
    stays = True
    for _ in range(looks):
        seen = slip + within(draws, -fuzz, fuzz)
        step = number(steerer(as_ratio(seen)))
        if drift.grain != ZERO:
            case.assertEqual((step / number(drift.grain)).denominator, 1)
        slip += step
        for _ in range(drift.every):
            slip += within(draws, low, high)
            stays = stays and -bound <= slip <= bound
    return stays


class TestDrift(unittest.TestCase):
    def test_attributes(self):
        self.assertEqual(list(vars(DRIFT).items()), [
            ("bound", (1, 1)), ("low", (-1, 10)), ("high", (1, 5)), ("every", 2), ("fuzz", (1, 10)), ("grain", ZERO)])
        self.assertEqual(list(vars(Drift(ZERO, ZERO, ZERO, 1))), NAMES)
        self.assertEqual(Drift(ZERO, ZERO, ZERO, 12, grain=(1, 3)).grain, (1, 3))

    def test_leeway_and_aim(self):
        self.assertEqual(DRIFT.leeway, (6, 5))
        self.assertEqual(GRAINED.leeway, (7, 10))
        self.assertEqual(Steady(DRIFT).aim, (-1, 10))
        self.assertEqual(Steady(DRIFT).drift, DRIFT)
        upward = Drift((3, 1), (1, 2), (1, 1), 3)  # the least move is one sheet's, the most all sheets'
        self.assertEqual((upward.leeway, Steady(upward).aim), ((7, 2), (-7, 4)))
        downward = Drift((3, 1), (-1, 1), (-1, 2), 3)
        self.assertEqual((downward.leeway, Steady(downward).aim), ((7, 2), (7, 4)))
        self.assertEqual(Drift(ZERO, ZERO, ZERO, 5).leeway, ZERO)

    def test_leeway_as_told(self):
        draws = Draws(901)
        signs = set()
        for _ in range(300):
            drift = drawn_drift(draws)
            self.assertEqual(number(drift.leeway), plain_leeway(drift))
            signs.add(plain_leeway(drift) >= 0)
        self.assertEqual(signs, {True, False})

    def test_equal(self):
        same = Drift((1, 1), (-1, 10), (1, 5), 2, fuzz=(1, 10), grain=ZERO)
        self.assertEqual(DRIFT, same)
        self.assertFalse(DRIFT != same)
        for other in (GRAINED, Drift((2, 1), (-1, 10), (1, 5), 2, fuzz=(1, 10)),
                      Drift((1, 1), (-1, 5), (1, 5), 2, fuzz=(1, 10)), Drift((1, 1), (-1, 10), (2, 5), 2, fuzz=(1, 10)),
                      Drift((1, 1), (-1, 10), (1, 5), 3, fuzz=(1, 10)), Drift((1, 1), (-1, 10), (1, 5), 2)):
            self.assertNotEqual(DRIFT, other)
            self.assertFalse(DRIFT == other)
        self.assertNotEqual(DRIFT, ((1, 1), (-1, 10), (1, 5), 2, (1, 10), ZERO))

    def test_errors(self):
        below = [(-1, 1), (-1, 1000)]
        for thing in (*BAD_RATIOS, *below):
            raises(self, BadDrift, {"what": "bound"}, Drift, thing, None, None, None, fuzz=None, grain=None)
            raises(self, BadDrift, {"what": "fuzz"}, Drift, ZERO, ZERO, ZERO, 1, fuzz=thing, grain=None)
            raises(self, BadDrift, {"what": "grain"}, Drift, ZERO, ZERO, ZERO, 12, fuzz=ZERO, grain=thing)
        for thing in BAD_RATIOS:
            raises(self, BadDrift, {"what": "low"}, Drift, ZERO, thing, None, None, fuzz=None, grain=None)
        for thing in (*BAD_RATIOS, (-1, 2), (-34, 100)):
            raises(self, BadDrift, {"what": "high"}, Drift, ZERO, (-1, 3), thing, None, fuzz=None, grain=None)
        for thing in (0, 13, -1, (1, 1), *ODD_THINGS):
            raises(self, BadDrift, {"what": "every"}, Drift, ZERO, (-1, 3), (-1, 3), thing, fuzz=None, grain=None)


class TestSteady(unittest.TestCase):
    def test_told_values(self):
        steady = Steady(DRIFT)
        self.assertEqual(list(vars(steady)), ["drift"])
        self.assertEqual(steady((1, 2)), (-3, 5))
        self.assertEqual(steady((-1, 10)), ZERO)
        self.assertEqual(steady((10 ** 200, 1)), (-(10 ** 201) - 1, 10))

    def test_whole_multiples_of_grain_the_lesser_of_two(self):
        drift = Drift((10, 1), ZERO, ZERO, 1, grain=(1, 1))
        steady = Steady(drift)
        self.assertEqual(steady.aim, ZERO)
        for seen, step in (((1, 2), (-1, 1)), ((-1, 2), ZERO), ((3, 2), (-2, 1)), ((-3, 2), (1, 1)),
                           ((49, 100), ZERO), ((-51, 100), (1, 1)), ((7, 1), (-7, 1))):
            self.assertEqual(steady(seen), step)
        self.assertEqual(Steady(GRAINED)((13, 20)), (-1, 1))
        self.assertEqual(Steady(GRAINED)((3, 5)), (-1, 2))

    def test_nearest_as_told(self):
        draws = Draws(902)
        for _ in range(200):
            drift = drawn_drift(draws)
            if plain_leeway(drift) < 0:
                continue
            seen = Fraction(draws.below(400) - 200, draws.one_of((1, 3, 8, 20)))
            steady = Steady(drift)
            step = number(steady(as_ratio(seen)))
            aim, grain = number(steady.aim), number(drift.grain)
            if grain == 0:
                self.assertEqual(seen + step, aim)
                continue
            start = step - step % grain
            self.assertEqual(start, step)
            near = min((abs(seen + start + k * grain - aim), start + k * grain) for k in range(-3, 4))
            self.assertEqual(near[1], step)

    def test_it_stays_for_ever(self):
        draws = Draws(903)
        met = 0
        for _ in range(250):
            drift = drawn_drift(draws)
            if plain_leeway(drift) < 0:
                raises(self, CannotStay, {}, Steady, drift)
                continue
            met += 1
            self.assertTrue(play_long(self, drift, Steady(drift), draws, 12))
        self.assertGreater(met, 50)

    def test_errors(self):
        raises(self, CannotStay, {}, Steady, Drift(ZERO, ZERO, ZERO, 1, grain=(1, 100)))
        for thing in BAD_RATIOS:
            raises(self, BadSeen, {}, Steady(DRIFT), thing)
            raises(self, BadSeen, {}, Steady(GRAINED), thing)


if __name__ == "__main__":
    unittest.main()
