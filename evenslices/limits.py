"""Limits of all lag numbers: plans that keep them, and ticks that show that no plan does."""

from evenslices.checks import check_load, check_number, check_process, is_integer_from
from evenslices.fitting import Task, fitted, most_at
from evenslices.loads import rounded_up


def check_limit(load, limit):
    """Raise InvalidNumber unless a value is a limit of a load."""
    check_number(limit, "limit", load[1] - 1)


def limited_window(period, share, number, limit):
    """Return the first and the last tick at which a slice can be if all lag numbers keep a limit.

    As the limit is below the period, the first one is never below 0, and the last one never behind the round.
    """
    return rounded_up((number + 1) * period - limit, share) - 1, (number * period + limit) // share


def limit_window(load, process, number, limit):
    """Return the first and the last tick at which a slice can be in a round plan that keeps a limit."""
    check_load(load)
    check_process(load, process)
    check_number(number, "number", load[2][process] - 1)
    check_limit(load, limit)
    return limited_window(load[1], load[2][process], number, limit)


def limited_windows(load, limit):
    """Return for each process the windows of its slices of one round in a plan that keeps a limit."""
    _, period, shares = load
    return [[limited_window(period, share, number, limit) for number in range(share)] for share in shares]


def fit_limit(load, limit):
    """Return the tuple of a round plan that keeps a limit and None; or of None and of ticks that show there is none."""
    windows = limited_windows(load, limit)
    # a slice that cannot be anywhere needs no ticks to show it
    if any([first > last for slices in windows for first, last in slices]):
        return None, []
    return fitted(Task(windows, [load[0]] * load[1]))


def limit_plan(load, limit):
    """Return a round plan that keeps a limit, or None if there is none."""
    check_load(load)
    check_limit(load, limit)
    plan, _ = fit_limit(load, limit)
    return plan


def least_limit(load):
    """Return the least limit that some round plan keeps."""
    check_load(load)
    # each round plan keeps the greatest limit, and what keeps a limit keeps all greater ones
    low, high = 0, load[1] - 1
    while low < high:
        middle = (low + high) // 2
        plan, _ = fit_limit(load, middle)
        if plan is None:
            low = middle + 1
        else:
            high = middle
    return low


def limit_ticks(load, limit):
    """Return an ascending list of ticks that shows that no round plan keeps a limit, or None if one does."""
    check_load(load)
    check_limit(load, limit)
    _, ticks = fit_limit(load, limit)
    return ticks


def are_ticks(value, period):
    """Return whether a value is an ascending list of ticks of one round."""
    if type(value) is not list:
        return False
    least = 0
    for tick in value:
        if not is_integer_from(tick, least, period - 1):
            return False
        least = tick + 1
    return True


def shows_limit(load, limit, value):
    """Return whether any value is an ascending list of ticks that shows that no round plan keeps a limit."""
    check_load(load)
    check_limit(load, limit)
    if not are_ticks(value, load[1]):
        return False
    outside = [tick for tick in range(load[1]) if tick not in value]
    needs = [len(slices) - most_at(slices, outside) for slices in limited_windows(load, limit)]
    return sum(needs) > load[0] * len(value)
