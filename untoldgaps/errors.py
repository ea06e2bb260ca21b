"""The errors of the package, all of them directly under GapError."""


class GapError(ValueError):
    """Something that the package refuses."""


class BadRatio(GapError):
    """Something is no ratio, or a ratio is divided by 0."""

    def __init__(self):
        super().__init__("no ratio")


class BadRow(GapError):
    """A row of balls is refused."""

    def __init__(self, index, what):
        super().__init__(f"row refused at ball {index}: {what}")
        self.index = index
        self.what = what


class BadGaps(GapError):
    """Gaps are refused."""

    def __init__(self, what):
        super().__init__(f"gaps refused: {what}")
        self.what = what


class BadMoment(GapError):
    """Something is no moment."""

    def __init__(self, moment):
        super().__init__("no moment")
        self.moment = moment


class NoBall(GapError):
    """A row has no such ball."""

    def __init__(self, ball):
        super().__init__("no such ball")
        self.ball = ball


class NoMirror(GapError):
    """A row with a wall has no mirrored row."""

    def __init__(self):
        super().__init__("a row with a wall is not mirrored")


class NoHurry(GapError):
    """A row with a wall is not hurried."""

    def __init__(self):
        super().__init__("a row with a wall is not hurried")


class Wide(GapError):
    """A row has more than three gaps."""

    def __init__(self):
        super().__init__("more than three gaps")


class BadText(GapError):
    """A text is refused."""

    def __init__(self, index, what):
        super().__init__(f"text refused at token {index}: {what}")
        self.index = index
        self.what = what


class NoPair(GapError):
    """A row has no such pair."""

    def __init__(self, pair):
        super().__init__("no such pair")
        self.pair = pair


class BadWord(GapError):
    """A word is refused."""

    def __init__(self, index, what):
        super().__init__(f"word refused at {index}: {what}")
        self.index = index
        self.what = what


class BadTable(GapError):
    """A table is refused."""

    def __init__(self, what):
        super().__init__(f"table refused: {what}")
        self.what = what


class Long(GapError):
    """A run has more clashes than are followed."""

    def __init__(self, count):
        super().__init__(f"more than {count} clashes")
        self.count = count


class NotComing(GapError):
    """A pair of a word does not come."""

    def __init__(self, index):
        super().__init__(f"the pair at {index} does not come")
        self.index = index


class AtClash(GapError):
    """A pair clashes at just this moment."""

    def __init__(self, moment):
        super().__init__("a pair clashes at this moment")
        self.moment = moment


class TwoGaps(GapError):
    """A row has not two gaps."""

    def __init__(self):
        super().__init__("not two gaps")


class NotClosed(GapError):
    """A row is not closed."""

    def __init__(self, index):
        super().__init__(f"not closed: no order at {index}")
        self.index = index


class BadStrict(GapError):
    """Strict rows are refused."""

    def __init__(self, index, what):
        super().__init__(f"strict rows refused at {index}: {what}")
        self.index = index
        self.what = what


class NoInner(GapError):
    """No gaps keep the strict rows."""

    def __init__(self):
        super().__init__("no inner gaps")


class TooMany(GapError):
    """A row has more wedges than are asked for."""

    def __init__(self, most):
        super().__init__(f"more than {most} wedges")
        self.most = most


class BadClaim(GapError):
    """A claim is refused."""

    def __init__(self, what):
        super().__init__(f"claim refused: {what}")
        self.what = what


class NotSettled(GapError):
    """Like weights do not settle a claim of this kind."""

    def __init__(self, kind):
        super().__init__("a claim that like weights do not settle")
        self.kind = kind


class Unlike(GapError):
    """The weights of a row are not all equal."""

    def __init__(self):
        super().__init__("unlike weights")


class NoMeeting(GapError):
    """A row has no such meeting."""

    def __init__(self, meeting):
        super().__init__("no such meeting")
        self.meeting = meeting


class SameMeeting(GapError):
    """A meeting is compared with itself."""

    def __init__(self, meeting):
        super().__init__("the same meeting twice")
        self.meeting = meeting


class BadStanding(GapError):
    """A standing of balls is refused."""

    def __init__(self, what):
        super().__init__(f"standing refused: {what}")
        self.what = what


class NoWall(GapError):
    """A row has a wall where none may stand."""

    def __init__(self):
        super().__init__("a wall stands where none may stand")


class NoLot(GapError):
    """A parting has no such lot."""

    def __init__(self, lot):
        super().__init__("no such lot")
        self.lot = lot


class BadFact(GapError):
    """A fact is refused."""

    def __init__(self, what):
        super().__init__(f"fact refused: {what}")
        self.what = what


class NothingFits(GapError):
    """No run fits what was heard."""

    def __init__(self):
        super().__init__("nothing fits")


class NotTrue(GapError):
    """A fact does not fit what was heard."""

    def __init__(self, fact):
        super().__init__("the fact does not fit")
        self.fact = fact


class NotHeard(GapError):
    """A fact was not heard."""

    def __init__(self, fact):
        super().__init__("the fact was not heard")
        self.fact = fact


class BadMoments(GapError):
    """Heard moments are refused."""

    def __init__(self, what):
        super().__init__(f"moments refused: {what}")
        self.what = what


class BadChange(GapError):
    """A change is refused."""

    def __init__(self, index, what):
        super().__init__(f"change refused at {index}: {what}")
        self.index = index
        self.what = what


class BadWish(GapError):
    """A wish is refused."""

    def __init__(self, index, what):
        super().__init__(f"wish refused at {index}: {what}")
        self.index = index
        self.what = what


class NoNumber(GapError):
    """No change has such a number."""

    def __init__(self, number):
        super().__init__("no such number")
        self.number = number
