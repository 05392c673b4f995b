import unittest

from neverbare.bench import Bench
from neverbare.changes import job_after
from neverbare.errors import BadChange, BadWish, NoChange, TooMany
from neverbare.jobtext import job_text, parse_job
from neverbare.wishes import broken_wish
from tests.helping import EXAMPLE, ODD_THINGS, REGION, SIX, Draws, all_tuples, drawn_jobs, leaves_alone, raises
from tests.test_changes import ALL, drawn_change
from tests.test_wishes import BARE, MANY

ONE, TWO = ("ink", 0, (3, 0)), ("ink", 0, (4, 0))


def state(bench):
    return bench.start, bench.job, bench.standing, bench.log, len(bench), list(bench)


class Stop(Exception):
    pass


class TestBench(unittest.TestCase):
    def test_a_new_bench(self):
        bench = Bench(SIX)
        self.assertIs(bench.start, SIX)
        self.assertEqual(state(bench), (SIX, SIX, (), (), 0, []))

    def test_put_and_take_back(self):
        bench = Bench(SIX)
        self.assertEqual(leaves_alone(self, bench.put, ["ink", 0, [3, 0]]), 1)
        self.assertEqual(bench.put(TWO), 2)
        self.assertEqual(bench.put(TWO), 3)
        self.assertEqual(bench.standing, ((1, ONE), (2, TWO), (3, TWO)))
        self.assertEqual(list(bench), list(bench.standing))
        self.assertEqual(len(bench), 3)
        self.assertEqual(bench.job, SIX.with_ink(0, (3, 0)).with_ink(0, (4, 0)))
        self.assertIsNone(bench.take_back(2))
        self.assertEqual(bench.job, SIX.with_ink(0, (3, 0)).with_ink(0, (4, 0)))  # number 3 still stands
        self.assertIsNone(bench.take_back(3))
        self.assertEqual(bench.job, SIX.with_ink(0, (3, 0)))
        self.assertEqual(bench.put(["hide", 1]), 4)  # one more than the number last given
        self.assertEqual(bench.standing, ((1, ONE), (4, ("hide", 1))))
        self.assertEqual(bench.log, (("put", 1, ONE), ("put", 2, TWO), ("put", 3, TWO), ("back", 2, TWO),
                                     ("back", 3, TWO), ("put", 4, ("hide", 1))))
        all_tuples(self, (bench.standing, bench.log))
        self.assertIs(bench.start, SIX)

    def test_a_change_taken_out_from_the_midst(self):
        bench = Bench(SIX)
        for change in (("exchange", 0), ("ink", 0, (0, 0)), ("exchange", 0)):
            bench.put(change)
        self.assertEqual(bench.job, SIX.with_ink(1, (0, 0)))
        bench.take_back(1)
        self.assertEqual(bench.job, job_after(SIX, [("ink", 0, (0, 0)), ("exchange", 0)]))
        self.assertEqual(bench.job, SIX.exchanged(0))

    def test_what_was_passed_is_not_kept(self):
        change = ["ink", 0, [3, 0]]
        bench = Bench(SIX)
        bench.put(change)
        change[2][0] = 5
        change[0] = "wipe"
        self.assertEqual(bench.standing, ((1, ONE),))
        bench.take_back(1)
        self.assertEqual(bench.job, SIX)

    def test_drawn_deeds(self):
        draws = Draws(961)
        for job in drawn_jobs(962, 40):
            bench, standing, log, last = Bench(job), [], [], 0
            for _ in range(25):
                if standing and draws.below(3) == 0:
                    number, change = draws.one_of(standing)
                    bench.take_back(number)
                    standing.remove((number, change))
                    log.append(("back", number, change))
                else:
                    change = drawn_change(draws, job)
                    last += 1
                    self.assertEqual(bench.put(change), last)
                    standing.append((last, change))
                    log.append(("put", last, change))
                wanted = job_after(job, [change for _, change in standing])
                self.assertEqual(state(bench), (job, wanted, tuple(standing), tuple(log), len(standing), standing))
                self.assertEqual(parse_job(job_text(bench.job)), bench.job)

    def test_many_changes(self):
        """Up to 100 are promised; a few more raise no error."""
        bench = Bench(SIX)
        for number in range(1, 106):
            self.assertEqual(bench.put(("hide", number % 2) if number % 3 else ("clear", number % 2)), number)
        bench.take_back(50)
        self.assertEqual(len(bench), 104)
        self.assertEqual(bench.job.plates[0].cells, SIX.plates[0].cells)

    def test_errors_change_nothing(self):
        bench = Bench(EXAMPLE)
        bench.put(ALL[0])
        before = state(bench)
        for change, what in [(None, "change"), (("ink", 0), "change"), (("ink", 2, None), "plate"),
                             (("exchange", 1), "plate"), (("wipe", 0, (7, 0)), "cell"), (("bound", 0, (3, 0)), "bound"),
                             *[(thing, "change") for thing in ODD_THINGS], ((), "change"), ([ALL[0]], "change")]:
            raises(self, BadChange, {"index": 0, "what": what}, bench.put, change)
            self.assertEqual(state(bench), before)
        for number in (0, 2, -1, True, (1,), 10 ** 30, *ODD_THINGS):
            raises(self, NoChange, {"number": number}, bench.take_back, number)
            self.assertEqual(state(bench), before)
        bench.take_back(1)
        raises(self, NoChange, {"number": 1}, bench.take_back, 1)
        self.assertEqual(bench.put(ALL[1]), 2)

    def test_broken_now(self):
        bench = Bench(SIX)
        wishes = [BARE]
        self.assertEqual(bench.broken_now(wishes).why, broken_wish(SIX, wishes).why)
        bench.put(ONE)
        self.assertIsNone(bench.broken_now(wishes))
        self.assertEqual(bench.broken_now([BARE, ["never bare", REGION]]).index, 1)
        raises(self, BadWish, {"index": 0}, bench.broken_now, [])
        raises(self, TooMany, {"most": 400}, Bench(MANY).broken_now, [("together", (0,))])

    def test_it_is_told_apart_from_others(self):
        one, other = Bench(SIX), Bench(SIX)
        one.put(ONE)
        self.assertEqual(len(other), 0)


class TestTrials(unittest.TestCase):
    def setUp(self):
        self.bench = Bench(SIX)
        self.bench.put(ONE)
        self.bench.put(TWO)
        self.bench.take_back(1)
        self.before = state(self.bench)

    def test_trial(self):
        with self.bench.trial() as held:
            self.assertIs(held, self.bench)
            self.assertEqual(state(held), self.before)
            self.assertEqual(held.put(("hide", 0)), 3)
            held.take_back(2)
            self.assertEqual(len(held.log), 5)
        self.assertEqual(state(self.bench), self.before)
        self.assertEqual(self.bench.put(ONE), 3)

    def test_a_trial_ended_by_an_error(self):
        with self.assertRaises(Stop):
            with self.bench.trial() as held:
                held.put(ONE)
                raise Stop()
        self.assertEqual(state(self.bench), self.before)
        with self.assertRaises(NoChange):
            with self.bench.trial() as held:
                held.take_back(2)
                held.take_back(2)
        self.assertEqual(state(self.bench), self.before)
        self.assertEqual(self.bench.put(ONE), 3)

    def test_as_it_was_when_the_block_was_entered(self):
        trial = self.bench.trial()
        self.assertEqual(self.bench.put(ONE), 3)
        before = state(self.bench)
        with trial as held:
            held.take_back(3)
            held.put(TWO)
        self.assertEqual(state(self.bench), before)
        self.assertEqual(self.bench.put(ONE), 4)

    def test_trials_within_trials(self):
        with self.bench.trial() as held:
            held.put(ONE)
            inner = state(held)
            with held.trial() as further:
                self.assertEqual(further.put(ONE), 4)
                self.assertEqual(further.tried(lambda bench: bench.put(TWO)), 5)
                self.assertEqual(further.put(ONE), 5)
            self.assertEqual(state(held), inner)
            self.assertEqual(held.put(TWO), 4)
        self.assertEqual(state(self.bench), self.before)

    def test_tried(self):
        wishes = [("never bare", REGION)]

        def mended(bench):
            bench.put(ONE)
            return bench.broken_now(wishes), bench
        found, held = self.bench.tried(mended)
        self.assertIsNone(found)
        self.assertIs(held, self.bench)
        self.assertEqual(state(self.bench), self.before)
        self.assertIsNone(self.bench.tried(lambda bench: bench.take_back(2)))
        self.assertEqual(state(self.bench), self.before)

        def fails(bench):
            bench.put(ONE)
            raise Stop()
        with self.assertRaises(Stop):
            self.bench.tried(fails)
        raises(self, NoChange, {"number": 1}, self.bench.tried, lambda bench: bench.take_back(1))
        self.assertEqual(state(self.bench), self.before)
        self.assertEqual(self.bench.put(ONE), 3)


if __name__ == "__main__":
    unittest.main()
