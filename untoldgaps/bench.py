"""A bench on which changes are put on a row and taken back."""

from untoldgaps.changes import changed_row, check_change
from untoldgaps.errors import NoNumber
from untoldgaps.ratios import is_whole
from untoldgaps.stickclaims import decide_sticking
from untoldgaps.verdicts import Sure, decide_claim


class Trial:
    """A block at the end of which a bench is again what it was when the block was entered."""

    def __init__(self, bench):
        self.bench = bench

    def __enter__(self):
        bench = self.bench
        self.now = bench.now
        self.kept = bench.kept
        self.log = bench.log
        self.given = bench.given
        return bench

    def __exit__(self, kind, value, trace):
        bench = self.bench
        bench.now = self.now
        bench.kept = self.kept
        bench.log = self.log
        bench.given = self.given


class Bench:
    """A row, the changes kept on it with their numbers, the row behind them, and a log of all calls."""

    def __init__(self, row):
        self.start = row
        self.now = row
        self.kept = ()
        self.log = ()
        self.given = 0

    def __len__(self):
        return len(self.kept)

    def __iter__(self):
        return iter(self.kept)

    def put(self, change):
        """Makes a change and returns its number."""
        told = check_change(self.now, 0, change)
        self.now = changed_row(self.now, [told])
        self.given = self.given + 1
        self.kept = self.kept + ((self.given, told),)
        self.log = self.log + (("put", self.given, told),)
        return self.given

    def take_back(self, number):
        """Takes back the kept change with a number, wherever it stands."""
        numbers = [each for each, _ in self.kept]
        if not is_whole(number) or number not in numbers:
            raise NoNumber(number)
        at = numbers.index(number)
        change = self.kept[at][1]
        self.kept = self.kept[:at] + self.kept[at + 1:]
        self.now = changed_row(self.start, [kept for _, kept in self.kept])
        self.log = self.log + (("back", number, change),)

    def is_sure(self, claim, *, sticking=False):
        """Tells whether a claim is Sure for the row as it is now."""
        verdict = decide_sticking(self.now, claim) if sticking else decide_claim(self.now, claim)
        return isinstance(verdict, Sure)

    def trial(self):
        """Returns an object for a block that leaves no trace on the bench."""
        return Trial(self)

    def tried(self, call):
        """Returns what a function of the bench returns, and leaves no trace of it."""
        with self.trial() as bench:
            return call(bench)
