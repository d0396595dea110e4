"""Plans: what they give to each process, and whether they are even."""

from evenslices.checks import MOST_TICKS, check_load, check_number, check_plan, check_process
from evenslices.errors import InvalidPlan, NotRound
from evenslices.loads import rounded_up


def is_plan(load, value):
    """Return whether any value is a plan of a load."""
    check_load(load)
    try:
        check_plan(load, value)
    except InvalidPlan:
        return False
    return True


def ticks_of(load, plan):
    """Return for each process of a load the ascending list of the ticks of a plan in which it runs.

    Raise InvalidPlan unless the plan is one of the load, as check_plan does: so a long plan is looked at only once.
    """
    if type(plan) is not list or len(plan) > MOST_TICKS:
        raise InvalidPlan(None)
    processors, _, shares = load
    many = len(shares)
    rows = [[] for _ in shares]
    for tick, row in enumerate(plan):
        # most ticks of long plans have one process, and a loop for each of them would take most of the time
        if type(row) is list and len(row) == 1:
            process = row[0]
            if type(process) is int and 0 <= process < many:
                rows[process].append(tick)
                continue
        if type(row) is not list or len(row) > processors:
            raise InvalidPlan(tick)
        ahead = -1
        for process in row:
            if type(process) is not int or not ahead < process < many:
                raise InvalidPlan(tick)
            rows[process].append(tick)
            ahead = process
    return rows


def counts_of(load, plan):
    """Return the counts of all processes at the end of a plan."""
    check_load(load)
    return [len(ticks) for ticks in ticks_of(load, plan)]


def lag_numbers(load, plan):
    """Return the lag numbers of all processes at the end of a plan."""
    check_load(load)
    rows = ticks_of(load, plan)
    _, period, shares = load
    return [share * len(plan) - period * len(ticks) for share, ticks in zip(shares, rows)]


def extremes(share, period, ticks, end):
    """Return the least and the greatest lag number of a process up to an end, from the ticks in which it runs."""
    # the lag number only falls where the process runs: it is greatest at such ticks, and least behind them
    lags = [share * tick - period * number for number, tick in enumerate(ticks)]
    last = share * end - period * len(ticks)
    if not lags:
        return 0, last
    return min(0, min(lags) + share - period), max(last, max(lags))


def extreme_lags(load, plan):
    """Return the least and the greatest lag number of all processes at all moments of a plan."""
    check_load(load)
    rows = ticks_of(load, plan)
    _, period, shares = load
    ends = [extremes(share, period, ticks, len(plan)) for share, ticks in zip(shares, rows)]
    return min([least for least, _ in ends]), max([greatest for _, greatest in ends])


def off_moment(share, period, ticks, end):
    """Return the first moment up to an end at which a process is not even, from the ticks in which it runs, or None."""
    # the slice that would be next is not there before the end
    for number, tick in enumerate([*ticks, end]):
        lag = share * tick - period * number
        if lag >= period:
            return rounded_up((number + 1) * period, share)
        if lag + share <= 0 and tick < end:
            return tick + 1
    return None


def off_moments(load, rows, end):
    """Return the tuples (moment, process) of all processes that are not even up to an end."""
    _, period, shares = load
    moments = [off_moment(share, period, ticks, end) for share, ticks in zip(shares, rows)]
    return [(moment, process) for process, moment in enumerate(moments) if moment is not None]


def first_off(load, plan):
    """Return the first moment at which some process is not even, and the least such process, or None."""
    check_load(load)
    rows = ticks_of(load, plan)
    return min(off_moments(load, rows, len(plan)), default=None)


def is_even(load, plan):
    """Return whether all processes are even up to the end of a plan."""
    return first_off(load, plan) is None


def rests_of(load, plan):
    """Return for each tick of a plan the ascending list of the processes that do not run."""
    check_load(load)
    check_plan(load, plan)
    # long plans have few different ticks
    known = {}
    rests = []
    for tick in plan:
        key = tuple(tick)
        rest = known.get(key)
        if rest is None:
            rest = [process for process in range(len(load[2])) if process not in tick]
            known[key] = rest
        rests.append(rest[:])
    return rests


def check_round(load, plan, rows):
    """Raise NotRound unless a plan is a round plan, from the ticks in which each process runs."""
    if len(plan) != load[1] or off_moments(load, rows, len(plan)):
        raise NotRound("the plan is not a round plan")


def far_count(load, plan, process, moment):
    """Return the count of a process at a moment, if a round plan follows itself for ever."""
    check_load(load)
    rows = ticks_of(load, plan)
    check_process(load, process)
    check_number(moment, "moment")
    check_round(load, plan, rows)
    rounds, rest = divmod(moment, load[1])
    # at the end of a round plan each lag is 0, so each round gives just the share
    return rounds * load[2][process] + len([tick for tick in rows[process] if tick < rest])


def far_tick(load, plan, tick):
    """Return the processes of a tick, if a round plan follows itself for ever."""
    check_load(load)
    rows = ticks_of(load, plan)
    check_number(tick, "tick")
    check_round(load, plan, rows)
    return list(plan[tick % load[1]])
