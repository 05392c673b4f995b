import unittest
from fractions import Fraction

from neverbare.drifts import Drift, Steady
from neverbare.errors import BadPlay, BadStep, CanStay
from neverbare.steering import Beaten, Play, beat_steerer, play_drift
from tests.helping import BAD_RATIOS, ODD_THINGS, ZERO, Draws, all_tuples, as_ratio, leaves_alone, number, raises
from tests.test_drifts import DRIFT, GRAINED, drawn_drift, plain_leeway, within

NARROW = Drift((1, 10), (-1, 10), (1, 5), 2, fuzz=(1, 10), grain=(1, 4))
THIRDS = Drift((1, 1), (-1, 3), (1, 3), 3, grain=(1, 3))  # leeway -1/3


def check_beaten(case, drift, steerer, found):
    """What a Beaten tells comes by sums of its own."""
    case.assertIsInstance(found, Beaten)
    all_tuples(case, (found.slip, found.seen, found.moves))
    bound, fuzz = number(drift.bound), number(drift.fuzz)
    slip, seen = number(found.slip), number(found.seen)
    case.assertLessEqual(abs(seen - slip), fuzz)
    slip += number(steerer(found.seen))
    case.assertEqual(len(found.moves), found.sheet + 1)
    case.assertLess(found.sheet, drift.every)
    for sheet, move in enumerate(found.moves):
        case.assertTrue(number(drift.low) <= number(move) <= number(drift.high))
        slip += number(move)
        case.assertEqual(abs(slip) > bound, sheet == found.sheet)


def some_steerers(drift):
    """Ways of correcting, in whole multiples of the grain."""
    grain = number(drift.grain)

    def rounded(wanted):
        return as_ratio(wanted if grain == 0 else round(wanted / grain) * grain)
    return [
        lambda seen: ZERO, lambda seen: rounded(-number(seen)), lambda seen: rounded(-number(seen) + Fraction(1, 3)),
        lambda seen: rounded(-number(seen) - 2), lambda seen: rounded(Fraction(50)), lambda seen: rounded(Fraction(-50)),
        lambda seen: rounded(-number(seen) / 2),
    ]


class TestBeatSteerer(unittest.TestCase):
    def test_every_steerer_is_beaten_exactly_if_leeway_is_below_0(self):
        draws = Draws(911)
        met = [0, 0]
        for _ in range(300):
            drift = drawn_drift(draws)
            for steerer in some_steerers(drift):
                if plain_leeway(drift) >= 0:
                    met[0] += 1
                    raises(self, CanStay, {}, beat_steerer, drift, steerer)
                    continue
                met[1] += 1
                check_beaten(self, drift, steerer, beat_steerer(drift, steerer))
        self.assertGreater(min(met), 100)

    def test_grains_that_just_miss(self):
        """The bounds leave room for some sums, but not for one of each grain."""
        for drift in (THIRDS, NARROW):
            for steerer in some_steerers(drift):
                check_beaten(self, drift, steerer, beat_steerer(drift, steerer))

    def test_moves_that_all_go_one_way(self):
        for low, high in (((1, 1), (2, 1)), ((-2, 1), (-1, 1)), ((-9, 1), (9, 1))):
            drift = Drift((1, 1), low, high, 4)
            for steerer in some_steerers(drift):
                check_beaten(self, drift, steerer, beat_steerer(drift, steerer))

    def test_it_calls_once(self):
        calls = []

        def steerer(seen):
            calls.append(seen)
            return ZERO
        found = beat_steerer(NARROW, steerer)
        self.assertEqual(calls, [found.seen])

    def test_errors(self):
        def never(seen):
            self.fail("called")
        for drift in (DRIFT, GRAINED, Drift(ZERO, ZERO, ZERO, 1)):
            raises(self, CanStay, {}, beat_steerer, drift, never)
        for thing in (*BAD_RATIOS, (1, 8), (-1, 3)):
            raises(self, BadStep, {"step": thing}, beat_steerer, NARROW, lambda seen: thing)
        free = Drift(ZERO, ZERO, (1, 1), 1)
        for thing in BAD_RATIOS:
            raises(self, BadStep, {"step": thing}, beat_steerer, free, lambda seen: thing)
        check_beaten(self, free, lambda seen: (1, 7), beat_steerer(free, lambda seen: (1, 7)))

    def test_results_keep_what_they_are_given(self):
        self.assertEqual(vars(Beaten(1, 2, [3], None)), {"slip": 1, "seen": 2, "moves": [3], "sheet": None})
        self.assertEqual(vars(Play(1, 2, [3], None)), {"seen": 1, "corrections": 2, "slips": [3], "out": None})


class TestPlayDrift(unittest.TestCase):
    def test_told_values(self):
        moves = [(1, 10), (1, 5), (-1, 10)]
        found = leaves_alone(self, play_drift, DRIFT, Steady(DRIFT), (1, 2), moves, [(1, 10), ZERO])
        self.assertEqual(found.seen, ((3, 5), (1, 10)))
        self.assertEqual(found.corrections, ((-7, 10), (-1, 5)))
        self.assertEqual(found.slips, ((-1, 10), (1, 10), (-1, 5)))
        self.assertIsNone(found.out)
        all_tuples(self, (found.seen, found.corrections, found.slips))

    def test_all_moves_are_played_behind_the_bound(self):
        drift = Drift((1, 1), ZERO, (1, 1), 3)
        found = play_drift(drift, lambda seen: ZERO, (1, 2), ((1, 1), ZERO, (1, 1), ZERO), (ZERO, ZERO))
        self.assertEqual(found.slips, ((3, 2), (3, 2), (5, 2), (5, 2)))
        self.assertEqual(found.out, 0)
        self.assertEqual(found.seen, ((1, 2), (5, 2)))
        still = play_drift(drift, lambda seen: ZERO, ZERO, [(1, 1), ZERO, ZERO], [ZERO])
        self.assertIsNone(still.out)  # the bound itself is let
        self.assertEqual(play_drift(drift, lambda seen: ZERO, (-9, 1), [ZERO], [ZERO]).out, 0)

    def test_without_moves_there_is_no_look(self):
        found = play_drift(DRIFT, lambda seen: self.fail("called"), (9, 1), (), [])
        self.assertEqual((found.seen, found.corrections, found.slips, found.out), ((), (), (), None))

    def test_by_sums_of_its_own(self):
        draws = Draws(912)
        outs = set()
        for _ in range(200):
            drift = drawn_drift(draws)
            steerer = draws.one_of(some_steerers(drift))
            slip = Fraction(draws.below(40) - 20, 4)
            low, high, fuzz = [number(ratio) for ratio in (drift.low, drift.high, drift.fuzz)]
            moves = [as_ratio(within(draws, low, high)) for _ in range(draws.below(10))]
            errors = [as_ratio(within(draws, -fuzz, fuzz)) for _ in range(-(-len(moves) // drift.every))]
            found = play_drift(drift, steerer, as_ratio(slip), moves, errors)
            seen, steps, slips, out = [], [], [], None
            for sheet, move in enumerate(moves):
                if sheet % drift.every == 0:
                    seen.append(slip + number(errors[sheet // drift.every]))
                    steps.append(number(steerer(as_ratio(seen[-1]))))
                    slip += steps[-1]
                slip += number(move)
                slips.append(slip)
                if out is None and abs(slip) > number(drift.bound):
                    out = sheet
            for told, own in ((found.seen, seen), (found.corrections, steps), (found.slips, slips)):
                self.assertEqual(told, tuple(as_ratio(part) for part in own))
            self.assertEqual(found.out, out)
            outs.add(out)
        self.assertLessEqual({None, 0, 1}, outs)

    def test_a_steady_play_and_a_beaten_one(self):
        draws = Draws(913)
        for _ in range(100):
            drift = drawn_drift(draws)
            if plain_leeway(drift) >= 0:
                low, high, fuzz = [number(ratio) for ratio in (drift.low, drift.high, drift.fuzz)]
                moves = [as_ratio(within(draws, low, high)) for _ in range(5 * drift.every)]
                errors = [as_ratio(within(draws, -fuzz, fuzz)) for _ in range(5)]
                self.assertIsNone(play_drift(drift, Steady(drift), (99, 7), moves, errors).out)
                continue
            for steerer in some_steerers(drift)[:3]:
                beaten = beat_steerer(drift, steerer)
                error = as_ratio(number(beaten.seen) - number(beaten.slip))
                play = play_drift(drift, steerer, beaten.slip, beaten.moves, [error])
                self.assertEqual((play.seen, play.out), ((beaten.seen,), beaten.sheet))

    def test_errors(self):
        def play(*parts):
            return play_drift(DRIFT, lambda seen: ZERO, *parts)
        good = [(1, 5)] * 3
        for thing in BAD_RATIOS:
            raises(self, BadPlay, {"index": 0, "what": "slip"}, play, thing, None, None)
        for thing in ([ZERO] * 101, {0: ZERO}, *ODD_THINGS):
            raises(self, BadPlay, {"index": 0, "what": "moves"}, play, ZERO, thing, None)
        for thing in (*BAD_RATIOS, (-11, 100), (21, 100)):
            raises(self, BadPlay, {"index": 2, "what": "move"}, play, ZERO, [ZERO, (-1, 10), thing, None], None)
        for thing in ([ZERO], [ZERO] * 3, (), {0: ZERO, 1: ZERO}, *ODD_THINGS):
            raises(self, BadPlay, {"index": 0, "what": "errors"}, play, ZERO, good, thing)
        raises(self, BadPlay, {"index": 0, "what": "errors"}, play, ZERO, (), [ZERO])
        for thing in (*BAD_RATIOS, (-11, 100), (11, 100)):
            raises(self, BadPlay, {"index": 1, "what": "error"}, play, ZERO, good, [(-1, 10), thing])
            raises(self, BadPlay, {"index": 0, "what": "error"}, play_drift, DRIFT, None, ZERO, good, [thing, None])
        self.assertEqual(len(play(ZERO, [ZERO] * 100, [ZERO] * 50).slips), 100)
        for thing in (*BAD_RATIOS, (1, 3)):
            raises(self, BadStep, {"step": thing}, play_drift, GRAINED, lambda seen: thing, ZERO, good, [ZERO, ZERO])
        later = iter([ZERO, (1, 3)])
        raises(self, BadStep, {"step": (1, 3)}, play_drift, GRAINED, lambda seen: next(later), ZERO, good, [ZERO, ZERO])


if __name__ == "__main__":
    unittest.main()
