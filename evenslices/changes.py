"""Shares that change at a moment on one processor: whether the processes can go on, and how.

A lag is told by an integer that is divided by a base. So that all lags stay integers behind the moment, they are
counted in parts of which the whole, one slice, has base * period.
"""

from evenslices.checks import MOST_PROCESSES, check_number, is_integer, is_integer_from
from evenslices.errors import Impossible, InvalidLags, InvalidShares
from evenslices.lagging import ends_of, failing, first_end, lags_behind

MOST_PERIOD = 3000
MOST_ON = 300


def check_lags(base, lags):
    """Raise InvalidLags unless a value is a list of lags above -1 and below 1, as integers that a base divides."""
    if type(lags) is not list or not 1 <= len(lags) <= MOST_PROCESSES:
        raise InvalidLags(None)
    for index, lag in enumerate(lags):
        if not is_integer(lag) or abs(lag) >= base:
            raise InvalidLags(index)


def check_shares(shares, many, period):
    """Raise InvalidShares unless a value has shares for so many processes, some of them perhaps 0."""
    if type(shares) is not list or len(shares) != many:
        raise InvalidShares(None)
    room = period
    for index, share in enumerate(shares):
        if not is_integer_from(share, 0, room):
            raise InvalidShares(index)
        room -= share


def check_change(base, lags, period, shares):
    """Raise the error of the first parameter of a change that is wrong."""
    check_number(base, "base", 10 ** 30 - 1, least=1)
    check_lags(base, lags)
    check_number(period, "period", MOST_PERIOD, least=1)
    check_shares(shares, len(lags), period)


def scaled(base, lags, period, shares):
    """Return the lags, the shares and the whole in parts of base * period."""
    return [lag * period for lag in lags], [share * base for share in shares], base * period


def failing_moment(base, lags, period, shares):
    """Return the least number of ticks behind the moment that are too few for the slices there must be, or None."""
    check_change(base, lags, period, shares)
    parts, steps, whole = scaled(base, lags, period, shares)
    return failing(parts, steps, whole, period)


def can_change(base, lags, period, shares):
    """Return whether the processes can go on for ever with these lags and shares."""
    return failing_moment(base, lags, period, shares) is None


def newcomer_share(base, lags, period, shares):
    """Return the greatest share with which one more process can be added, with the lag 0; None if there is none."""
    check_change(base, lags, period, shares)
    parts, steps, whole = scaled(base, lags, period, shares)
    best = period - sum(shares)
    room = 0
    # as all lags are below 1, no slice must be there ahead of the first tick
    for ticks, number in enumerate(ends_of(parts, steps, whole, period)[1:], start=1):
        room += 1 - number
        if room < 0:
            return None
        # the newcomer needs share * ticks / period slices, rounded down
        best = min(best, ((room + 1) * period - 1) // ticks)
    return best


def plan_on(base, lags, period, shares, many):
    """Return the first ticks of a plan with which the processes go on."""
    check_change(base, lags, period, shares)
    check_number(many, "many", MOST_ON)
    parts, steps, whole = scaled(base, lags, period, shares)
    if failing(parts, steps, whole, period) is not None:
        raise Impossible("the processes cannot go on")
    # slices that end first come first: this does if anything does
    plan = []
    for _ in range(many):
        process = first_end(parts, steps, whole)
        plan.append([] if process is None else [process])
        parts = lags_behind(parts, steps, whole, process)
    return plan
