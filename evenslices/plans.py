"""Plans: what they give to each process, and whether they are even."""

from evenslices.checks import check_load, check_number, check_plan, check_process
from evenslices.errors import InvalidPlan, NotRound


def is_plan(load, value):
    """Return whether any value is a plan of a load."""
    check_load(load)
    try:
        check_plan(load, value)
    except InvalidPlan:
        return False
    return True


def count_in(ticks, process):
    """Return in how many ticks a process runs."""
    return len([tick for tick in ticks if process in tick])


def counts_of(load, plan):
    """Return the counts of all processes at the end of a plan."""
    check_load(load)
    check_plan(load, plan)
    return [count_in(plan, process) for process in range(len(load[2]))]


def lags_behind(load, lags, tick):
    """Return the lag numbers of all processes behind a tick, from those ahead of it."""
    _, period, shares = load
    due = [lag + share for lag, share in zip(lags, shares)]
    return [lag - period if process in tick else lag for process, lag in enumerate(due)]


def lag_rows(load, plan):
    """Return the lists of the lag numbers at all moments from 0 to the end of a plan."""
    rows = [[0] * len(load[2])]
    for tick in plan:
        rows.append(lags_behind(load, rows[-1], tick))
    return rows


def lag_numbers(load, plan):
    """Return the lag numbers of all processes at the end of a plan."""
    check_load(load)
    check_plan(load, plan)
    return lag_rows(load, plan)[-1]


def first_off(load, plan):
    """Return the first moment at which some process is not even, and the least such process, or None."""
    check_load(load)
    check_plan(load, plan)
    period = load[1]
    for moment, lags in enumerate(lag_rows(load, plan)):
        for process, lag in enumerate(lags):
            if not -period < lag < period:
                return moment, process
    return None


def is_even(load, plan):
    """Return whether all processes are even up to the end of a plan."""
    return first_off(load, plan) is None


def extreme_lags(load, plan):
    """Return the least and the greatest lag number of all processes at all moments of a plan."""
    check_load(load)
    check_plan(load, plan)
    rows = lag_rows(load, plan)
    return min([min(lags) for lags in rows]), max([max(lags) for lags in rows])


def rests_of(load, plan):
    """Return for each tick of a plan the ascending list of the processes that do not run."""
    check_load(load)
    check_plan(load, plan)
    many = len(load[2])
    return [[process for process in range(many) if process not in tick] for tick in plan]


def check_round(load, plan):
    """Raise NotRound unless a plan is a round plan."""
    if len(plan) != load[1] or not is_even(load, plan):
        raise NotRound("the plan is not a round plan")


def far_count(load, plan, process, moment):
    """Return the count of a process at a moment, if a round plan follows itself for ever."""
    check_load(load)
    check_plan(load, plan)
    check_process(load, process)
    check_number(moment, "moment")
    check_round(load, plan)
    rounds, rest = divmod(moment, load[1])
    # at the end of a round plan each lag is 0, so each round gives just the share
    return rounds * load[2][process] + count_in(plan[:rest], process)


def far_tick(load, plan, tick):
    """Return the processes of a tick, if a round plan follows itself for ever."""
    check_load(load)
    check_plan(load, plan)
    check_number(tick, "tick")
    check_round(load, plan)
    return list(plan[tick % load[1]])
