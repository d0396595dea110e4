"""What was seen: the loads for which the ticks that some processes ran in are even."""

from math import gcd

from evenslices.checks import check_number, is_tick
from evenslices.errors import InvalidSeen
from evenslices.loads import rounded_up

MOST_SEEN = 200
MOST_MANY = 12
MOST_PERIOD = 2000


def check_seen(processors, many, seen):
    """Raise InvalidSeen unless a value is what was seen of so many processes on so many processors."""
    if type(seen) is not list or not 1 <= len(seen) <= MOST_SEEN:
        raise InvalidSeen(None)
    for index, tick in enumerate(seen):
        if not is_tick(tick, processors, many):
            raise InvalidSeen(index)


def check_sizes(processors, many):
    """Raise InvalidNumber unless both values are numbers that a load can have."""
    check_number(processors, "processors", MOST_MANY, least=1)
    check_number(many, "many", MOST_MANY, least=1)


def check_sight(processors, many, seen):
    """Raise the error of the first parameter that is wrong."""
    check_sizes(processors, many)
    check_seen(processors, many, seen)


def is_less(one, other):
    """Return whether a fraction is less than another one."""
    return one[0] * other[1] < other[0] * one[1]


class Span:
    """What the share of a process, divided by the period, can be: above low and below high, fractions as tuples.

    If the process is steady, that is if it ran in each tick, it can also be 1.
    """

    def __init__(self, low, high, steady):
        self.low = low
        self.high = high
        self.steady = steady

    def meet(self, other):
        """Return what is in both spans."""
        low = other.low if is_less(self.low, other.low) else self.low
        high = other.high if is_less(other.high, self.high) else self.high
        return Span(low, high, self.steady and other.steady)

    def least(self, period):
        """Return the least share for a period, if there is any."""
        return self.low[0] * period // self.low[1] + 1

    def greatest(self, period):
        """Return the greatest share for a period, if there is any."""
        return period if self.steady else rounded_up(self.high[0] * period, self.high[1]) - 1


def span_of(ticks, end):
    """Return the span of a process that ran in these ticks, of so many as end tells."""
    # what a count asks for is strictest just behind the tick with which it begins and just ahead of the next one
    low, high = (0, 1), (1, 1)
    for number, tick in enumerate(ticks):
        if is_less(low, (number, tick + 1)):
            low = (number, tick + 1)
        if tick > 0 and is_less((number + 1, tick), high):
            high = (number + 1, tick)
    if is_less((len(ticks) + 1, end), high):
        high = (len(ticks) + 1, end)
    return Span(low, high, len(ticks) == end)


def spans_of(many, seen):
    """Return for each process its span."""
    rows = [[] for _ in range(many)]
    for tick, row in enumerate(seen):
        for process in row:
            rows[process].append(tick)
    return [span_of(ticks, len(seen)) for ticks in rows]


def reduced(fraction):
    """Return a fraction without a common divisor above 1."""
    numerator, denominator = fraction
    divisor = gcd(numerator, denominator)
    return numerator // divisor, denominator // divisor


def share_ends(processors, many, seen):
    """Return for each process the fractions between which its share, divided by the period, is."""
    check_sight(processors, many, seen)
    return [(reduced(span.low), reduced(span.high)) for span in spans_of(many, seen)]


def total_of(fractions):
    """Return the sum of fractions."""
    numerator, denominator = 0, 1
    for over, under in fractions:
        numerator, denominator = reduced((numerator * under + over * denominator, denominator * under))
    return numerator, denominator


def some_full(processors, spans):
    """Return whether some full load has its shares in the spans."""
    if not all([span.steady or is_less(span.low, span.high) for span in spans]):
        return False
    whole = (processors, 1)
    low = total_of([span.low for span in spans])
    high = total_of([span.high for span in spans])
    # the ends themselves do not count, but for a share that can be 1
    steady = all([span.steady for span in spans])
    return is_less(low, whole) and (is_less(whole, high) or (steady and whole == high))


def can_be(processors, many, seen):
    """Return whether what was seen is even for some full load."""
    check_sight(processors, many, seen)
    return some_full(processors, spans_of(many, seen))


def fits(processors, spans, period):
    """Return whether some full load with a period has its shares in the spans."""
    least = [span.least(period) for span in spans]
    greatest = [span.greatest(period) for span in spans]
    if any([low > high for low, high in zip(least, greatest)]):
        return False
    return sum(least) <= processors * period <= sum(greatest)


def first_period(processors, spans, most):
    """Return the least period up to most of a full load with its shares in the spans, or None."""
    if not some_full(processors, spans):
        return None
    for period in range(1, most + 1):
        if fits(processors, spans, period):
            return period
    return None


def check_search(processors, many, seen, most):
    """Raise the error of the first parameter of a search for a period that is wrong."""
    check_sight(processors, many, seen)
    check_number(most, "most", MOST_PERIOD, least=1)


def least_period(processors, many, seen, most):
    """Return the least period, up to most, of a full load for which what was seen is even, or None."""
    check_search(processors, many, seen, most)
    return first_period(processors, spans_of(many, seen), most)


def shares_for(processors, many, seen, most):
    """Return the least list of shares of such a load with the least period, or None."""
    check_search(processors, many, seen, most)
    spans = spans_of(many, seen)
    period = first_period(processors, spans, most)
    if period is None:
        return None
    # each share is as small as the greatest shares of all processes behind it let it be
    left = processors * period
    room = sum([span.greatest(period) for span in spans])
    shares = []
    for span in spans:
        room -= span.greatest(period)
        shares.append(max(span.least(period), left - room))
        left -= shares[-1]
    return shares


def fit_together(processors, many, one, other):
    """Return whether there is a full load for which both, what was seen at two times, are even."""
    check_sight(processors, many, one)
    check_seen(processors, many, other)
    return some_full(processors, [span.meet(also) for span, also in zip(spans_of(many, one), spans_of(many, other))])
