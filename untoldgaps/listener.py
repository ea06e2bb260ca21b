"""A listener hears facts one by one and knows at each time what fits them."""

from untoldgaps.errors import NotHeard, NotTrue
from untoldgaps.facts import check_fact
from untoldgaps.heard import decide_heard, fitting_words


class Listener:
    """The facts heard of the run of a row, and the words with gaps that fit them."""

    def __init__(self, row, *, most=400):
        self.row = row
        self.most = most
        self.facts = ()
        self.fits = fitting_words(row, (), most=most)

    def __len__(self):
        return len(self.facts)

    def __iter__(self):
        return iter(self.facts)

    def hear(self, fact):
        """Adds a fact, or raises NotTrue if no gaps would fit any more."""
        facts = self.facts + (check_fact(self.row, fact),)
        # One fact too many is refused here, too.
        fits = fitting_words(self.row, facts, most=self.most)
        if not fits:
            raise NotTrue(fact)
        self.facts = facts
        self.fits = fits

    def forget(self, fact):
        """Takes away the first fact heard that is the same, or raises NotHeard."""
        told = check_fact(self.row, fact)
        if told not in self.facts:
            raise NotHeard(fact)
        at = self.facts.index(told)
        facts = self.facts[:at] + self.facts[at + 1:]
        self.fits = fitting_words(self.row, facts, most=self.most)
        self.facts = facts

    def decide(self, claim):
        """Decides a claim for all gaps that fit the facts heard."""
        return decide_heard(self.row, self.facts, claim, most=self.most)

    def trial(self, action):
        """Returns what an action on the listener returns, and leaves no trace of it."""
        facts = self.facts
        fits = self.fits
        try:
            return action(self)
        finally:
            self.facts = facts
            self.fits = fits
