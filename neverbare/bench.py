"""The bench: changes of a job that stand until they are taken back."""

from neverbare.changes import check_changes, with_changes
from neverbare.errors import NoChange
from neverbare.ratios import is_whole
from neverbare.wishes import broken_wish


class Trial:
    """What leaves a bench, behind one with, as it was when the block was entered."""

    def __init__(self, bench):
        self.bench = bench

    def __enter__(self):
        self.job = self.bench.job
        self.standing = self.bench.standing
        self.log = self.bench.log
        self.last = self.bench.last
        return self.bench

    def __exit__(self, kind, value, trace):
        self.bench.job = self.job
        self.bench.standing = self.standing
        self.bench.log = self.log
        self.bench.last = self.last


class Bench:
    """A job, and the changes that stand on it, each with the number that it was given."""

    def __init__(self, job):
        self.start = job
        self.job = job
        self.standing = ()
        self.log = ()
        self.last = 0

    def __len__(self):
        return len(self.standing)

    def __iter__(self):
        return iter(self.standing)

    def put(self, change):
        """Puts a change behind the standing ones and returns its number."""
        told = check_changes(self.start, (change,))[0]
        number = self.last + 1
        self.job = with_changes(self.job, (told,))
        self.standing = (*self.standing, (number, told))
        self.log = (*self.log, ("put", number, told))
        self.last = number
        return number

    def take_back(self, number):
        """Takes out the standing change with this number."""
        known = [row for row in self.standing if row[0] == number]
        if not is_whole(number) or len(known) == 0:
            raise NoChange(number)
        left = tuple([row for row in self.standing if row[0] != number])
        self.job = with_changes(self.start, [change for _, change in left])
        self.standing = left
        self.log = (*self.log, ("back", number, known[0][1]))

    def broken_now(self, wishes):
        """A Broken of the first wish that the job does not grant, or None."""
        return broken_wish(self.job, wishes)

    def trial(self):
        """An object for one with, whose block gets the bench and leaves it as it was."""
        return Trial(self)

    def tried(self, call):
        """What a function returns for the bench, which is left as it was."""
        with self.trial() as held:
            return call(held)
