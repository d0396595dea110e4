"""Groups of processes, and plans that give each of them its share of each tick."""

from evenslices.checks import check_groups, check_load, check_number, check_plan, check_process
from evenslices.errors import InvalidGroups, NotInWindow
from evenslices.fitting import Task, fitted, round_windows, slice_windows
from evenslices.loads import rounded_up


def is_groups(load, value):
    """Return whether any value is groups of a load."""
    check_load(load)
    try:
        check_groups(load, value)
    except InvalidGroups:
        return False
    return True


def bounds_of(load, groups):
    """Return for each group the tuple of its due rounded down and rounded up."""
    _, period, shares = load
    sums = [sum([shares[process] for process in group]) for group in groups]
    return [(total // period, rounded_up(total, period)) for total in sums]


def group_bounds(load, groups):
    """Return for each group the tuple of its due rounded down and rounded up, for groups of a load."""
    check_load(load)
    check_groups(load, groups)
    return bounds_of(load, groups)


def breached(row, families, bounds):
    """Return the first family of which too few or too many processes run in a tick, or None."""
    for index, (family, (least, most)) in enumerate(zip(families, bounds)):
        if not least <= len([process for process in row if process in family]) <= most:
            return index
    return None


def first_breach(load, groups, plan):
    """Return the first tick that does not keep the groups, and the first group that it does not keep, or None.

    All processes together count as one more group at the end.
    """
    check_load(load)
    check_groups(load, groups)
    check_plan(load, plan)
    families = [*groups, list(range(len(load[2])))]
    bounds = bounds_of(load, families)
    # long plans have few different ticks
    known = {}
    for tick, row in enumerate(plan):
        key = tuple(row)
        if key not in known:
            known[key] = breached(row, families, bounds)
        if known[key] is not None:
            return tick, known[key]
    return None


def fit_round(load, groups, windows):
    """Return a plan of one round that keeps the groups, with each slice in its window."""
    _, period, shares = load
    total = sum(shares)
    processors = rounded_up(total, period)
    # one process more takes what is left of so many processors: so all of them are busy in each tick, and the number
    # of the others is what is due to all of them, rounded down or up
    rest = slice_windows(processors * period - total, period)
    bounded = [(group, least, most) for group, (least, most) in zip(groups, bounds_of(load, groups))]
    plan, _ = fitted(Task([*windows, rest], [processors] * period, groups=bounded))
    return [[process for process in row if process < len(shares)] for row in plan]


def group_plan(load, groups):
    """Return a round plan that keeps the groups."""
    check_load(load)
    check_groups(load, groups)
    return fit_round(load, groups, round_windows(load))


def slice_plan(load, groups, process, number, tick):
    """Return a round plan that keeps the groups and has a slice of a process at a tick of its window."""
    check_load(load)
    check_groups(load, groups)
    check_process(load, process)
    check_number(number, "number", load[2][process] - 1)
    check_number(tick, "tick")
    windows = round_windows(load)
    first, last = windows[process][number]
    if not first <= tick <= last:
        raise NotInWindow("the tick is not in the window of the slice")
    windows[process][number] = (tick, tick)
    return fit_round(load, groups, windows)
