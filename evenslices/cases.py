"""Cases: a beginning, processors that are missing and processes that are asleep; ways to go on, or what stands against.

Inside this module ticks are counted from the beginning of the case.
"""

from evenslices.checks import (
    check_counts, check_load, check_number, check_process, first_wrong_pair, is_integer_from, is_tick,
)
from evenslices.errors import InvalidAsleep, InvalidCaps, InvalidTicks
from evenslices.fitting import Task, fitted, most_at
from evenslices.loads import rounded_up

MOST_CAPS = 60
MOST_SLEEPERS = 200


def check_caps(load, caps):
    """Raise InvalidCaps unless a value tells for each tick of a case how many processors there are."""
    if type(caps) is not list or not 1 <= len(caps) <= MOST_CAPS:
        raise InvalidCaps(None)
    for index, cap in enumerate(caps):
        if not is_integer_from(cap, 0, load[0]):
            raise InvalidCaps(index)


def check_asleep(load, begin, caps, asleep):
    """Raise InvalidAsleep unless a value tells who is asleep when in a case."""
    if type(asleep) is not list or len(asleep) > MOST_SLEEPERS:
        raise InvalidAsleep(None)
    index = first_wrong_pair(asleep, begin, begin + len(caps), len(load[2]))
    if index is not None:
        raise InvalidAsleep(index)


def check_case(load, begin, counts, caps, asleep):
    """Raise the error of the first parameter that does not tell a case."""
    check_load(load)
    check_number(begin, "begin")
    check_counts(load, begin, counts)
    check_caps(load, caps)
    check_asleep(load, begin, caps, asleep)


def check_ticks(begin, caps, ticks):
    """Raise InvalidTicks unless a value is an ascending list of ticks of a case."""
    if type(ticks) is not list:
        raise InvalidTicks(None)
    least = begin
    for index, tick in enumerate(ticks):
        if not is_integer_from(tick, least, begin + len(caps) - 1):
            raise InvalidTicks(index)
        least = tick + 1


def windows_from(load, begin, process, number, many):
    """Return the windows of the slices of a process from a number on that begin in the first ticks of a case."""
    _, period, shares = load
    share = shares[process]
    windows = []
    first = number * period // share
    while first < begin + many:
        number += 1
        last = rounded_up(number * period, share) - 1
        windows.append((max(0, first - begin), last - begin))
        first = number * period // share
    return windows


def closed_cells(begin, asleep):
    """Return who is asleep when, with the ticks counted from the beginning."""
    return [(tick - begin, process) for tick, process in asleep]


def task_of(load, begin, counts, caps, asleep):
    """Return what is asked of a way of a case."""
    many = len(caps)
    windows = [windows_from(load, begin, process, count, many) for process, count in enumerate(counts)]
    return Task(windows, caps, closed=closed_cells(begin, asleep))


def keeps_windows(load, begin, counts, rows):
    """Return whether each slice is at a tick of its window, and each slice is there whose window ends by the end.

    By point 5 that is so if all lags stay above -1 and below 1.
    """
    _, period, shares = load
    lags = [share * begin - period * count for share, count in zip(shares, counts)]
    for row in rows:
        for process, share in enumerate(shares):
            lags[process] += share - (period if process in row else 0)
            if abs(lags[process]) >= period:
                return False
    return True


def is_way(load, begin, counts, caps, asleep, value):
    """Return whether any value is a way of a case."""
    check_case(load, begin, counts, caps, asleep)
    if type(value) is not list or len(value) != len(caps):
        return False
    for cap, row in zip(caps, value):
        if not is_tick(row, cap, len(load[2])):
            return False
    if any([process in value[tick] for tick, process in closed_cells(begin, asleep)]):
        return False
    return keeps_windows(load, begin, counts, value)


def way_of(load, begin, counts, caps, asleep):
    """Return a way of a case, or None if there is none."""
    check_case(load, begin, counts, caps, asleep)
    plan, _ = fitted(task_of(load, begin, counts, caps, asleep))
    return plan


def stuck_ticks(load, begin, counts, caps, asleep):
    """Return an ascending list of ticks that shows that a case has no way, or None if it has one."""
    check_case(load, begin, counts, caps, asleep)
    _, ticks = fitted(task_of(load, begin, counts, caps, asleep))
    return None if ticks is None else [begin + tick for tick in ticks]


def plain_need(load, begin, counts, caps, asleep, process, ticks):
    """Return the need of a process for ticks, of a case that is right."""
    many = len(caps)
    windows = windows_from(load, begin, process, counts[process], many)
    must = [(first, last) for first, last in windows if last < many]
    taken = [tick for tick, sleeper in asleep if sleeper == process]
    outside = [tick for tick in range(many) if begin + tick not in ticks and begin + tick not in taken]
    return len(must) - most_at(must, outside)


def need_of(load, begin, counts, caps, asleep, process, ticks):
    """Return how many slices of a process cannot be outside of some ticks of a case."""
    check_case(load, begin, counts, caps, asleep)
    check_process(load, process)
    check_ticks(begin, caps, ticks)
    return plain_need(load, begin, counts, caps, asleep, process, ticks)


def shows_stuck(load, begin, counts, caps, asleep, value):
    """Return whether any value is an ascending list of ticks that shows that a case has no way."""
    check_case(load, begin, counts, caps, asleep)
    try:
        check_ticks(begin, caps, value)
    except InvalidTicks:
        return False
    needs = [plain_need(load, begin, counts, caps, asleep, process, value) for process in range(len(counts))]
    return sum(needs) > sum([caps[tick - begin] for tick in value])
