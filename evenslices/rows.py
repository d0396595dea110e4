"""Rows: the ticks of one process, as straight as one likes, and whether the others can fill up the rest."""

from evenslices.checks import check_load, check_number, check_process, check_single, is_integer
from evenslices.errors import InvalidTicks
from evenslices.fitting import Task, first_ends, round_windows, slice_windows
from evenslices.loads import rounded_up


def early(load, process, number):
    """Return the first tick of the window of a slice."""
    _, period, shares = load
    return number * period // shares[process]


def straight(load, process, shift, number):
    """Return the tick of a slice in the straight row with a shift."""
    _, period, shares = load
    # the count is above the number from the first moment on at which share * moment + shift has its next period
    return rounded_up((number + 1) * period - shift, shares[process]) - 1


def early_tick(load, process, number):
    """Return the first tick of the window of a slice, on one processor."""
    check_load(load)
    check_process(load, process)
    check_number(number, "number")
    check_single(load)
    return early(load, process, number)


def check_shift(load, process, shift):
    """Raise the error of the first parameter of a straight row that is wrong."""
    check_load(load)
    check_process(load, process)
    check_number(shift, "shift", load[1] - 1)


def straight_tick(load, process, shift, number):
    """Return the tick of a slice in the row in which the count is (share * t + shift) / period rounded down."""
    check_shift(load, process, shift)
    check_number(number, "number")
    check_single(load)
    return straight(load, process, shift, number)


def windows_with(load, process, ticks):
    """Return for each process the windows of its slices of one round; for one of them just the ticks."""
    windows = round_windows(load)
    windows[process] = [(tick, tick) for tick in ticks]
    return windows


def fill(load, process, ticks):
    """Return a round plan in which a process runs at just these ticks, or None if there is none."""
    plan, good = first_ends(Task(windows_with(load, process, ticks), [1] * load[1]))
    return plan if good else None


def early_plan(load, process):
    """Return a round plan in which each slice of a process is at the first tick of its window."""
    check_load(load)
    check_process(load, process)
    check_single(load)
    return fill(load, process, [early(load, process, number) for number in range(load[2][process])])


def straight_plan(load, process, shift):
    """Return a round plan in which each slice of a process is at its tick of the straight row with a shift."""
    check_shift(load, process, shift)
    check_single(load)
    return fill(load, process, [straight(load, process, shift, number) for number in range(load[2][process])])


def check_row(load, process, ticks):
    """Raise InvalidTicks unless a value tells for each slice of a process a tick of its window, ascending."""
    _, period, shares = load
    share = shares[process]
    if type(ticks) is not list or len(ticks) != share or not all([is_integer(tick) for tick in ticks]):
        raise InvalidTicks(None)
    ahead = -1
    for index, (tick, (first, last)) in enumerate(zip(ticks, slice_windows(share, period))):
        if not max(first, ahead + 1) <= tick <= last:
            raise InvalidTicks(index)
        ahead = tick


def check_filled(load, process, ticks):
    """Raise the error of the first parameter that is wrong, or NotSingle."""
    check_load(load)
    check_process(load, process)
    check_row(load, process, ticks)
    check_single(load)


def filled(load, process, ticks):
    """Return a round plan in which a process runs at just these ticks, or None if there is none."""
    check_filled(load, process, ticks)
    return fill(load, process, ticks)


def crowded_end(lasts, begin):
    """Return the first end of a stretch from begin on with more windows in it than ticks, or None.

    lasts tells for each tick how many of the windows that do not begin ahead of the stretch end with it.
    """
    total = begin
    for tick in range(begin, len(lasts)):
        total += lasts[tick]
        if total > tick + 1:
            return tick + 1
    return None


def full_stretch(load, process, ticks):
    """Return the first stretch (begin, end) with more slices in it than ticks, or None if there is a round plan."""
    check_filled(load, process, ticks)
    period = load[1]
    begun = [[] for _ in range(period)]
    for slices in windows_with(load, process, ticks):
        for first, last in slices:
            begun[first].append(last)
    lasts = [0] * period
    stretch = None
    for begin in reversed(range(period)):
        for last in begun[begin]:
            lasts[last] += 1
        end = crowded_end(lasts, begin)
        if end is not None:
            stretch = (begin, end)
    return stretch
