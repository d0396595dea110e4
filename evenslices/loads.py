"""Loads, what is due to their processes, and the windows of their slices."""

from evenslices.checks import check_load, check_number, check_process
from evenslices.errors import InvalidLoad, NoRest, NotFull


def rounded_up(number, divisor):
    """Return the quotient of two integers, rounded up."""
    return -(-number // divisor)


def is_load(value):
    """Return whether any value is a load."""
    try:
        check_load(value)
    except InvalidLoad:
        return False
    return True


def is_full(load):
    """Return whether the shares of a load take all of its processors."""
    check_load(load)
    processors, period, shares = load
    return sum(shares) == processors * period


def due_counts(load, process, moment):
    """Return what is due to a process at a moment, rounded down and rounded up."""
    check_load(load)
    check_process(load, process)
    check_number(moment, "moment")
    _, period, shares = load
    due = shares[process] * moment
    return due // period, rounded_up(due, period)


def window_of(load, process, number):
    """Return the first and the last tick of the window of a slice."""
    check_load(load)
    check_process(load, process)
    check_number(number, "number")
    _, period, shares = load
    share = shares[process]
    return number * period // share, rounded_up((number + 1) * period, share) - 1


def slices_at(load, process, tick):
    """Return the ascending list of the numbers of the slices whose windows have a tick."""
    check_load(load)
    check_process(load, process)
    check_number(tick, "tick")
    _, period, shares = load
    share = shares[process]
    # a window has the tick if its stretch of time, not yet rounded, meets that of the tick
    first = tick * share // period
    behind = rounded_up((tick + 1) * share, period)
    return list(range(first, behind))


def windows_within(load, process, begin, end):
    """Return how many windows of a process lie from tick begin to tick end - 1."""
    check_load(load)
    check_process(load, process)
    check_number(begin, "begin")
    check_number(end, "end")
    _, period, shares = load
    share = shares[process]
    first = rounded_up(begin * share, period)
    behind = end * share // period
    return max(0, behind - first)


def rest_load(load):
    """Return the load of the rests: a processor for each process that does not run."""
    if not is_full(load):
        raise NotFull("the load is not full")
    processors, period, shares = load
    if period in shares:
        raise NoRest("a share is the period")
    return len(shares) - processors, period, [period - share for share in shares]
