import unittest

from neverbare.changes import job_after
from neverbare.errors import BadChange, BadWish, TooMany
from neverbare.jobs import Job
from neverbare.mends import Mends, Spoiler, find_mends, find_spoilers, mends_fault
from neverbare.plates import Plate
from neverbare.wishes import Broken, broken_fault, broken_wish
from tests.helping import ODD_THINGS, REGION, SIX, Draws, all_lots, all_tuples, dense_jobs, leaves_alone, raises
from tests.test_bars import as_lists
from tests.test_changes import drawn_change
from tests.test_wishes import MANY, drawn_wish

# The pool and the wishes of [10.11].
POOL = (("ink", 0, (3, 0)), ("ink", 0, (4, 0)), ("ink", 1, (2, 0)))
WISHES = (("never bare", tuple(REGION)), ("widest", 0, (0, 6), (0, 1), "mixed", 3))
LOSSES = ((), (0,), (1,), (2,), (0, 2), (1, 2))


def choices_of(pool):
    return list(all_lots(range(len(pool))))


def behind(job, pool, choice):
    return job_after(job, [pool[index] for index in choice])


def is_good(job, pool, wishes, choice):
    return broken_wish(behind(job, pool, choice), wishes) is None


def plain_least(job, pool, wishes):
    good = [choice for choice in choices_of(pool) if is_good(job, pool, wishes, choice)]
    return tuple(one for one in good if not any(set(other) < set(one) for other in good)), good


def some_cases(seed, many):
    draws = Draws(seed)
    for job in dense_jobs(seed + 1, many, bounds=((0, 0), (1, 0))):
        pool = [drawn_change(draws, job) for _ in range(1 + draws.below(5))]
        # Greater bounds would have too many samples for a wish "together".
        pool = [("bound", change[1], (draws.below(2), 0)) if change[0] == "bound" else change for change in pool]
        yield job, pool, [drawn_wish(draws, job) for _ in range(1 + draws.below(3))]


class TestFindMends(unittest.TestCase):
    def test_told_values(self):
        found = leaves_alone(self, find_mends, SIX, as_lists(POOL), [as_lists(wish) for wish in WISHES])
        self.assertIsInstance(found, Mends)
        self.assertEqual(found.least, ((0, 1),))
        self.assertEqual(tuple(choice for choice, _ in found.losses), LOSSES)
        self.assertEqual([broken.index for _, broken in found.losses], [0, 0, 0, 0, 1, 0])
        self.assertEqual(found.needed, (0, 1))
        all_tuples(self, (found.least, found.losses, found.needed))

    def test_the_empty_choice(self):
        found = find_mends(SIX, POOL, [("never bare", [(1, 0)])])
        self.assertEqual((found.least, found.losses, found.needed), (((),), (), ()))

    def test_no_choice_is_good(self):
        found = find_mends(SIX, POOL[:2], [("never bare", [(0, 0)])])
        self.assertEqual((found.least, found.needed), ((), ()))
        self.assertEqual([choice for choice, _ in found.losses], [(), (0,), (1,), (0, 1)])

    def test_needed_are_those_in_all_least_choices(self):
        for least, needed in ((((0, 2), (1, 2)), (2,)), (((0,), (1, 2)), ()), (((0, 1, 3), (0, 2, 3)), (0, 3)),
                              ((), ()), (((),), ()), (((4,),), (4,))):
            self.assertEqual(Mends(least, ()).needed, needed)
        self.assertEqual(vars(Mends([1], 2)), {"least": [1], "losses": 2})

    def test_changes_are_made_in_the_order_of_the_pool(self):
        pool = [("exchange", 0), ("ink", 0, (2, 0)), ("ink", 1, (2, 0))]
        wishes = [("seen", 1, (2, 0)), ("unseen", 0, (2, 0))]
        # Behind the exchange plate 1 has the cells 0, 1 and 2 already.
        self.assertEqual(find_mends(SIX, pool, wishes).least, ((0,),))
        self.assertEqual(find_mends(SIX, pool[1:] + pool[:1], wishes).least, ((2,),))

    def test_by_trying_all_choices(self):
        sizes = set()
        for job, pool, wishes in some_cases(951, 160):
            least, good = plain_least(job, pool, wishes)
            found = find_mends(job, pool, wishes)
            self.assertEqual(found.least, least)
            lost = tuple(choice for choice in choices_of(pool) if not any(set(one) <= set(choice) for one in least))
            self.assertEqual(tuple(choice for choice, _ in found.losses), lost)
            for choice, broken in found.losses:
                self.assertIsNone(broken_fault(behind(job, pool, choice), wishes, broken))
            for choice in good:
                self.assertLessEqual(set(found.needed), set(choice))
            self.assertEqual(found.needed, tuple(
                index for index in range(len(pool)) if least and all(index in choice for choice in least)))
            self.assertIsNone(mends_fault(job, pool, wishes, found))
            sizes.add(len(least))
        self.assertLessEqual({0, 1, 2}, sizes)

    def test_errors(self):
        for call in (find_mends, find_spoilers, lambda job, pool, wishes: mends_fault(job, pool, wishes, None)):
            for thing in ([], (), [POOL[0]] * 6, [None] * 6, {0: POOL[0]}, *ODD_THINGS):
                raises(self, BadChange, {"index": 0, "what": "pool"}, call, SIX, thing, None)
            for change, what in ((None, "change"), (("ink", 2, None), "plate"), (("ink", 1, (6, 0)), "cell"),
                                 (("bound", 0, (3, 0)), "bound")):
                raises(self, BadChange, {"index": 1, "what": what}, call, SIX, [POOL[0], change, None], None)
            for thing in ([], [WISHES[0]] * 7, *ODD_THINGS):
                raises(self, BadWish, {"index": 0}, call, SIX, POOL, thing)
            raises(self, BadWish, {"index": 2}, call, SIX, POOL, [*WISHES, ("together", ())])


class TestTooMany(unittest.TestCase):
    """Ink plates of a great bound have too many samples; without a change there are few."""
    SMALL = Job(2, 1, [Plate([(0, 0)], False, (0, 0)) for _ in range(3)])
    TOGETHER = [("together", (0,))]
    GROW = [("bound", plate, (2, 2)) for plate in range(3)]

    def test_find_mends_asks_no_choice_that_holds_a_least_one(self):
        self.assertEqual(find_mends(self.SMALL, self.GROW, self.TOGETHER).least, ((),))
        raises(self, TooMany, {"most": 400}, find_mends, MANY, [("hide", 0)], self.TOGETHER)
        # The choice (0, 1) has too many samples, but (0,) is good and so it is not asked.
        wishes = [("seen", 0, (1, 0)), *self.TOGETHER]
        pool = [("ink", 0, (1, 0)), ("bound", 1, (2, 2)), ("bound", 2, (2, 2))]
        found = find_mends(self.SMALL, pool, wishes)
        self.assertEqual(found.least, ((0,),))
        self.assertIsNone(mends_fault(self.SMALL, pool, wishes, found))

    def test_find_spoilers_asks_further(self):
        job = self.SMALL.with_bound(1, (2, 2)).with_bound(2, (2, 2))
        raises(self, TooMany, {"most": 400}, find_mends, job, [("hide", 0)], self.TOGETHER)
        one = self.SMALL.with_bound(1, (2, 2))
        pool = [("bound", 2, (2, 2))]
        self.assertEqual(find_mends(one, pool, self.TOGETHER).least, ((),))
        raises(self, TooMany, {"most": 400}, find_spoilers, one, pool, self.TOGETHER)

    def test_mends_fault_asks_the_least_ones(self):
        told = Mends(((0,),), (((), Broken(0, None)),))
        raises(self, TooMany, {"most": 400}, mends_fault, MANY, [("hide", 0)], self.TOGETHER, told)
        for wrong, word in ((Mends([()], ()), "mends"), (Mends(((), (0,)), ()), "within"), (Mends(((0,),), ()), "lacking")):
            self.assertEqual(mends_fault(MANY, [("hide", 0)], self.TOGETHER, wrong), word)
        # Losses are judged without samples.
        lost = Mends((), (((), Broken(0, None)), ((0,), Broken(0, None))))
        self.assertEqual(mends_fault(MANY, [("hide", 0)], self.TOGETHER, lost), "broken")


class TestMendsFault(unittest.TestCase):
    def setUp(self):
        self.right = find_mends(SIX, POOL, WISHES)
        self.losses = self.right.losses

    def fault(self, least, losses):
        return mends_fault(SIX, POOL, WISHES, Mends(least, losses))

    def test_right(self):
        self.assertIsNone(leaves_alone(self, mends_fault, SIX, as_lists(POOL), list(WISHES), self.right))
        self.assertIsNone(self.fault(((0, 1),), self.losses))

    def test_mends(self):
        for thing in (*ODD_THINGS, ((0, 1),), Broken(0, None)):
            self.assertEqual(mends_fault(SIX, POOL, WISHES, thing), "mends")
        for least in ([(0, 1)], None, ([0, 1],), ((1, 0),), ((0, 0),), ((0, 3),), ((-1, 0),), ((False, 1),), (0,), (None,),
                      ((0, 1), (0, 1)), ((0, 1), (2,)), ((1, 2), (0, 1)), {}):
            self.assertEqual(self.fault(least, self.losses), "mends")
        first = self.losses[0]
        for losses in (list(self.losses), None, (list(first), *self.losses[1:]), ((first[0],), *self.losses[1:]),
                       ((*first, 0), *self.losses[1:]), (([], first[1]), *self.losses[1:]), self.losses[::-1],
                       (first, *self.losses), (*self.losses, ((1, 2, 3), first[1])), (None,), {}):
            self.assertEqual(self.fault(((0, 1),), losses), "mends")

    def test_within(self):
        broken = self.losses[0][1]
        self.assertEqual(self.fault(((0,), (0, 1)), self.losses), "within")
        self.assertEqual(self.fault(((), (0, 1)), ()), "within")
        self.assertEqual(self.fault(((0, 1),), (*self.losses[:4], ((0, 1), broken), *self.losses[4:])), "within")
        self.assertEqual(self.fault(((0, 1),), (*self.losses, ((0, 1, 2), broken))), "within")
        self.assertEqual(self.fault(((2,),), self.losses), "within")

    def test_lacking(self):
        for at in range(len(self.losses)):
            self.assertEqual(self.fault(((0, 1),), self.losses[:at] + self.losses[at + 1:]), "lacking")
        self.assertEqual(self.fault((), self.losses), "lacking")
        self.assertEqual(self.fault((), ()), "lacking")

    def test_good(self):
        self.assertEqual(self.fault(((0, 1), (0, 2)), tuple(row for row in self.losses if row[0] != (0, 2))), "good")
        self.assertEqual(self.fault(((),), ()), "good")

    def test_broken(self):
        for at, (choice, broken) in enumerate(self.losses):
            for wrong in (None, Broken(1 - broken.index, broken.why), Broken(2, None), Broken(broken.index, None)):
                rows = (*self.losses[:at], (choice, wrong), *self.losses[at + 1:])
                self.assertEqual(self.fault(((0, 1),), rows), "broken")
        # A choice told as lost that is good, with a reason that was right for another one.
        rows = {choice: broken for choice, broken in self.losses}
        told = tuple((choice, rows.get(choice, rows[0, 2])) for choice in choices_of(POOL))
        self.assertEqual(self.fault((), told), "broken")

    def test_any_right_reasons(self):
        """A Broken may tell any wish that is not granted, with any right reason."""
        twice = [*WISHES, WISHES[0]]
        rows = tuple((choice, Broken(2, broken.why) if broken.index == 0 else broken) for choice, broken in self.losses)
        self.assertIsNone(mends_fault(SIX, POOL, twice, Mends(((0, 1),), rows)))


class TestFindSpoilers(unittest.TestCase):
    def test_told_values(self):
        found = leaves_alone(self, find_spoilers, SIX, as_lists(POOL), [as_lists(wish) for wish in WISHES])
        self.assertEqual([(one.choice, one.added, one.broken.index) for one in found], [((0, 1), 2, 1)])
        self.assertIsInstance(found, tuple)
        self.assertEqual(found[0].broken.why.length, (4, 1))
        self.assertEqual(vars(Spoiler(1, 2, [3])), {"choice": 1, "added": 2, "broken": [3]})

    def test_by_trying_all_choices(self):
        met = 0
        for job, pool, wishes in some_cases(953, 120):
            wanted = []
            for choice in plain_least(job, pool, wishes)[0]:
                for added in range(len(pool)):
                    more = tuple(sorted({*choice, added}))
                    if added not in choice and not is_good(job, pool, wishes, more):
                        wanted.append((choice, added))
            found = find_spoilers(job, pool, wishes)
            self.assertEqual([(one.choice, one.added) for one in found], wanted)
            for one in found:
                more = tuple(sorted((*one.choice, one.added)))
                self.assertIsNone(broken_fault(behind(job, pool, more), wishes, one.broken))
            met += len(found)
        self.assertGreater(met, 10)

    def test_ink_spoils_no_never_bare_region(self):
        draws = Draws(955)
        for job in dense_jobs(956, 80):
            pool = [("ink", draws.below(len(job)), draws.one_of(job.field)) for _ in range(1 + draws.below(5))]
            wishes = [("never bare", [draws.one_of(job.field) for _ in range(2)]) for _ in range(2)]
            self.assertEqual(find_spoilers(job, pool, wishes), ())


if __name__ == "__main__":
    unittest.main()
