"""Lag numbers on one processor: whose turn it is, what a tick makes of them, and whether there are ticks enough.

In a tick each lag number grows by the share of its process; the one of the process that runs falls by the whole, the
lag number of one slice. On a load the whole is the period.
"""

from evenslices.loads import rounded_up


def first_end(lags, shares, whole, left_out=None):
    """Return the process whose slice has begun and ends first, of several the least one; None if there is none.

    A process with the share 0 has no slice that ends.
    """
    ends = [
        (rounded_up(whole - lag, share), process) for process, (lag, share) in enumerate(zip(lags, shares))
        if share > 0 and lag + share > 0 and process != left_out
    ]
    return min(ends)[1] if ends else None


def next_end(lags, shares, whole):
    """Return the process whose next slice ends first, whether it has begun or not; of several the least one."""
    ends = [rounded_up(whole - lag, share) for lag, share in zip(lags, shares)]
    return ends.index(min(ends))


def most_behind(lags, shares):
    """Return the process with the greatest lag number behind this tick if it does not run; of several the least one."""
    behind = [lag + share for lag, share in zip(lags, shares)]
    return behind.index(max(behind))


def lags_behind(lags, shares, whole, process):
    """Return the lag numbers behind a tick in which a process runs, or none for None."""
    behind = [lag + share for lag, share in zip(lags, shares)]
    if process is not None:
        behind[process] -= whole
    return behind


def not_even(lags, whole):
    """Return the least process that is not even with these lag numbers, or None."""
    for process, lag in enumerate(lags):
        if abs(lag) >= whole:
            return process
    return None


def ends_of(lags, shares, whole, many):
    """Return for each number of ticks from 0 to many how many slices must be there just by the end of them."""
    ends = [0] * (many + 1)
    for lag, share in zip(lags, shares):
        for number in range(1, (lag + share * many) // whole + 1):
            ends[rounded_up(number * whole - lag, share)] += 1
    return ends


def failing(lags, shares, whole, many):
    """Return the least number of ticks, up to many, in which there must be more slices than ticks, or None."""
    need = 0
    for ticks, number in enumerate(ends_of(lags, shares, whole, many)):
        need += number
        if need > ticks:
            return ticks
    return None
