"""The rules of the document told a second time, slowly and with Fractions, to compare with."""

from fractions import Fraction
from math import gcd, lcm


def fractions(ratios):
    return [Fraction(*ratio) if isinstance(ratio, tuple) else Fraction(ratio) for ratio in ratios]


def clash(weights, speeds, pair):
    """The speeds behind a clash of a pair [2.1]."""
    told = list(speeds)
    if pair == -1:
        told[0] = -speeds[0]
        return told
    a, b = weights[pair], weights[pair + 1]
    u, v = speeds[pair], speeds[pair + 1]
    told[pair] = ((a - b) * u + 2 * b * v) / Fraction(a + b)
    told[pair + 1] = ((b - a) * v + 2 * a * u) / Fraction(a + b)
    return told


def closing(speeds, pair):
    return -speeds[0] if pair == -1 else speeds[pair] - speeds[pair + 1]


class World:
    """A row of balls that moves from one clash to the next one, places and all."""

    def __init__(self, row, gaps):
        self.weights = list(row.weights)
        self.pairs = list(row.pairs)
        self.speeds = fractions(row.speeds)
        self.moment = Fraction(0)
        place = Fraction(0)
        self.places = [] if row.wall else [place]
        for gap in fractions(gaps):
            place += gap
            self.places.append(place)

    def gap(self, pair):
        if pair == -1:
            return self.places[0]
        return self.places[pair + 1] - self.places[pair]

    def gaps(self):
        return [self.gap(pair) for pair in self.pairs]

    def times(self):
        """The time from now on to the clash of each pair that comes."""
        return {
            pair: self.gap(pair) / closing(self.speeds, pair)
            for pair in self.pairs
            if closing(self.speeds, pair) > 0
        }

    def wait(self, time):
        self.places = [place + speed * time for place, speed in zip(self.places, self.speeds)]
        self.moment += time

    def next_clashes(self):
        """What clashes next: (moment, pairs, whether this is a border), or None."""
        times = self.times()
        if not times:
            return None
        least = min(times.values())
        pairs = sorted(pair for pair, time in times.items() if time == least)
        border = [pair for pair in pairs if pair - 1 in pairs or pair + 1 in pairs]
        return (self.moment + least, border or pairs, bool(border))

    def strike(self, pair):
        self.wait(self.times()[pair])
        self.speeds = clash(self.weights, self.speeds, pair)


def whole_run(row, gaps, most=2000):
    """All clashes [(moment, pair, speeds)], the border (moment, pairs) or None, and the world at the last clash."""
    world = World(row, gaps)
    clashes = []
    while len(clashes) < most:
        told = world.next_clashes()
        if told is None:
            return clashes, None, world
        moment, pairs, is_border = told
        if is_border:
            return clashes, (moment, pairs), world
        world.strike(pairs[0])
        clashes.append((moment, pairs[0], list(world.speeds)))
    raise AssertionError("too long for a test")


def world_at(row, gaps, moment):
    """The world at a moment, behind all clashes of this moment; None if a border lies at or ahead of it."""
    world = World(row, gaps)
    while True:
        told = world.next_clashes()
        if told is None or told[0] > moment:
            world.wait(moment - world.moment)
            return world
        if told[2]:
            return None
        world.strike(told[1][0])


def claim_is_true(claim, word, speeds):
    """The claims of [6.1] told a second time, for a word and end speeds."""
    kind, *parts = claim
    many = list(word)
    if kind == "meets":
        return many.count(parts[0]) > 0
    if kind == "first":
        return many[:1] == [parts[0]]
    if kind in ("count", "times"):
        count = len(many) if kind == "count" else many.count(parts[0])
        least, most = parts[-2:]
        return count >= least and count <= (count if most is None else most)
    if kind == "speed":
        speed = fractions(speeds)[parts[0]]
        low, high = [speed if bound is None else fractions([bound])[0] for bound in parts[1:]]
        return low <= speed <= high
    if kind == "ahead":
        firsts = [many.index(pair) if pair in many else None for pair in parts]
        return None not in firsts and firsts[0] < firsts[1]
    held = [claim_is_true(part, word, speeds) for part in parts]
    return {"not": not held[0], "both": all(held), "either": any(held)}[kind]


class StickWorld:
    """A sticking run [8.1] told with places: lots as lists of balls that move from one joining to the next one."""

    def __init__(self, row, gaps):
        self.weights = list(row.weights)
        self.speeds = fractions(row.speeds)
        self.moment = Fraction(0)
        self.lots = [[ball] for ball in range(len(row))]
        self.places = [Fraction(0)]
        for gap in fractions(gaps):
            self.places.append(self.places[-1] + gap)
        self.joinings = []

    def mean(self, lot):
        return sum(self.weights[k] * self.speeds[k] for k in lot) / sum(self.weights[k] for k in lot)

    def wait(self, time):
        for lot in self.lots:
            mean = self.mean(lot)
            for ball in lot:
                self.places[ball] += mean * time
        self.moment += time

    def next_time(self):
        """The time from now on to the next joining, or None."""
        times = []
        for one, other in zip(self.lots, self.lots[1:]):
            closing = self.mean(one) - self.mean(other)
            if closing > 0:
                times.append((self.places[other[0]] - self.places[one[0]]) / closing)
        return min(times) if times else None

    def join(self):
        """Makes one lot of all that are at one place."""
        lots = []
        for lot in self.lots:
            if lots and self.places[lots[-1][0]] == self.places[lot[0]]:
                lots[-1] = lots[-1] + lot
            else:
                lots.append(lot)
        fresh = [(lot[0], lot[-1]) for lot in lots if lot not in self.lots]
        self.joinings.append((self.moment, fresh))
        self.lots = lots

    def follow(self, until=None):
        """Goes on to a moment, behind its joinings, or to the end."""
        time = self.next_time()
        while time is not None and (until is None or self.moment + time <= until):
            self.wait(time)
            self.join()
            time = self.next_time()
        if until is not None:
            self.wait(until - self.moment)
        return self

    def ends(self):
        return tuple([(lot[0], lot[-1]) for lot in self.lots])

    def join_moments(self):
        """For each pair the moment of its joining, or None."""
        told = []
        for pair in range(len(self.weights) - 1):
            moments = [moment for moment, lots in self.joinings if any(a <= pair < b for a, b in lots)]
            told.append(moments[0] if moments else None)
        return told


def fact_is_true(row, gaps, clashes, fact):
    """The facts of [9.1] told a second time, for clashes (moment, pair, speeds)."""
    kind, *parts = fact
    word = [pair for _, pair, _ in clashes]
    if kind == "count":
        return len(word) == parts[0]
    if kind == "word":
        return list(parts[0]) == word[:len(parts[0])]
    if kind == "silent":
        return word.count(parts[0]) == 0
    if kind == "gaps":
        starts = dict(zip(row.pairs, fractions(gaps)))
        quotient = starts[parts[0]] / starts[parts[1]]
    else:
        i, j = parts[:2]
        if len(word) < j:
            return False
        quotient = clashes[j - 1][0] / clashes[i - 1][0]
    if kind == "exact":
        return quotient == fractions(parts[2:])[0]
    low = fractions(parts[2:3])[0]
    return low < quotient and (parts[3] is None or quotient < fractions(parts[3:])[0])


def _eliminated(rows):
    """Strict rows without their first variable: what follows of them for the others, by sums of two."""
    above = [row for row in rows if row[0] > 0]
    below = [row for row in rows if row[0] < 0]
    left = [row[1:] for row in rows if row[0] == 0]
    for one in above:
        for other in below:
            left.append([a * -other[0] + b * one[0] for a, b in zip(one[1:], other[1:])])
    return left


def _scaled(row):
    """A row times a number above 0: whole numbers, so that equal conditions are equal rows."""
    told = [Fraction(number) for number in row]
    bottom = lcm(*[number.denominator for number in told])
    wholes = [int(number * bottom) for number in told]
    common = gcd(*wholes) or 1
    return tuple([whole // common for whole in wholes])


def is_solvable(strict, level):
    """Whether some numbers make all strict rows greater than 0 and all level rows 0, by elimination."""
    strict, level = [_scaled(row) for row in strict], [_scaled(row) for row in level]
    while level:
        row = level.pop()
        at = next((at for at, number in enumerate(row) if number), None)
        if at is not None:
            # The variable at this place is told by the others.
            size, sign = abs(row[at]), 1 if row[at] > 0 else -1
            strict, level = [
                [_scaled([a * size - b * old[at] * sign for a, b in zip(old, row)]) for old in rows]
                for rows in (strict, level)
            ]
    while strict and strict[0]:
        strict = [_scaled(row) for row in _eliminated(list(set(strict)))]
    return not strict


def _fact_rows(row, word, moments, fact):
    """The rows above 0 and the rows at 0 that a fact asks of the gaps of a word, None if it never holds."""
    kind, *parts = fact
    if kind == "count":
        return ([], []) if len(word) == parts[0] else None
    if kind == "word":
        return ([], []) if list(word[:len(parts[0])]) == list(parts[0]) else None
    if kind == "silent":
        return ([], []) if parts[0] not in word else None
    if kind == "gaps":
        late, soon = [[int(pair == other) for other in row.pairs] for pair in parts[:2]]
    else:
        if len(word) < parts[1]:
            return None
        soon, late = moments[parts[0] - 1], moments[parts[1] - 1]
    low = fractions(parts[2:3])[0]
    lead = [a - low * b for a, b in zip(late, soon)]
    if kind == "exact":
        return [], [lead]
    if parts[3] is None:
        return [lead], []
    high = fractions(parts[3:])[0]
    return [lead, [high * b - a for a, b in zip(late, soon)]], []


class WordGaps:
    """The gaps of a word: strict rows that they keep, from forms of its moments, and those that facts add."""

    def __init__(self, row, word, moments):
        self.row = row
        self.word = word
        self.moments = [fractions(form) for form in moments]
        units = [[int(at == other) for other in range(row.gap_count)] for at in range(row.gap_count)]
        rising = [[b - a for a, b in zip(one, other)] for one, other in zip(self.moments, self.moments[1:])]
        self.strict = units + rising

    def fits(self, facts, more=(), level=()):
        """Whether some gaps fit facts, and further rows."""
        strict, zero = self.strict + list(more), list(level)
        for fact in facts:
            told = _fact_rows(self.row, self.word, self.moments, fact)
            if told is None:
                return False
            strict, zero = strict + told[0], zero + told[1]
        return is_solvable(strict, zero)

    def fits_without(self, facts, fact):
        """Whether some gaps fit facts, but not a further one."""
        told = _fact_rows(self.row, self.word, self.moments, fact)
        if told is None:
            return self.fits(facts)
        for numbers in told[0]:
            if self.fits(facts, [[-number for number in numbers]]) or self.fits(facts, level=[numbers]):
                return True
        for numbers in told[1]:
            if self.fits(facts, [numbers]) or self.fits(facts, [[-number for number in numbers]]):
                return True
        return False
