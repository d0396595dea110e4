"""Checks of parameters that several modules have in common."""

from evenslices.errors import (
    InvalidCounts, InvalidGroups, InvalidLoad, InvalidNumber, InvalidPairs, InvalidPlan, InvalidProcess, NotSingle,
)

MOST_PROCESSORS = 12
MOST_PROCESSES = 12
MOST_TICKS = 1000
MOST_GROUPS = 20
MOST_PAIRS = 300


def is_integer(value):
    """Return whether a value is an int that is not a bool."""
    return isinstance(value, int) and not isinstance(value, bool)


def is_integer_from(value, least, most):
    """Return whether a value is an integer from least to most."""
    return is_integer(value) and least <= value <= most


def are_shares(value, processors, period):
    """Return whether a value is a list of shares of a load."""
    # not isinstance: where the document names a list or a tuple, it means exactly this kind
    if type(value) is not list or not 1 <= len(value) <= MOST_PROCESSES:
        return False
    for share in value:
        if type(share) is not int or not 1 <= share <= period:
            return False
    return sum(value) <= processors * period


def check_load(load):
    """Raise InvalidLoad unless a value is a load."""
    if type(load) is not tuple or len(load) != 3:
        raise InvalidLoad(None)
    processors, period, shares = load
    if not is_integer_from(processors, 1, MOST_PROCESSORS):
        raise InvalidLoad(0)
    if not is_integer_from(period, 1, 10 ** 30 - 1):
        raise InvalidLoad(1)
    if not are_shares(shares, processors, period):
        raise InvalidLoad(2)


def check_process(load, process):
    """Raise InvalidProcess unless a value is a process of a load."""
    if not is_integer_from(process, 0, len(load[2]) - 1):
        raise InvalidProcess("not a process of the load")


def check_single(load):
    """Raise NotSingle unless a load has one processor."""
    if load[0] != 1:
        raise NotSingle("the load has more than one processor")


def check_number(value, name, most=None, least=0):
    """Raise InvalidNumber unless the value of the parameter of this name is an integer from least on, or to most."""
    # the value stays out of the message: Python refuses to write very long integers
    if not is_integer(value) or value < least or (most is not None and value > most):
        raise InvalidNumber(f"{name} is not an integer in its range")


def is_tick(value, processors, many):
    """Return whether a value is an ascending list of at most so many of the processes from 0 to many - 1."""
    if type(value) is not list or len(value) > processors:
        return False
    ahead = -1
    for process in value:
        if type(process) is not int or not ahead < process < many:
            return False
        ahead = process
    return True


def check_plan(load, plan):
    """Raise InvalidPlan unless a value is a plan of a load."""
    if type(plan) is not list or len(plan) > MOST_TICKS:
        raise InvalidPlan(None)
    processors, _, shares = load
    many = len(shares)
    ticks = iter(plan)
    for tick in ticks:
        # most ticks of long plans have one process: a call for each of them would take longer than all the rest
        if type(tick) is list and len(tick) == 1:
            process = tick[0]
            if type(process) is int and 0 <= process < many:
                continue
        if not is_tick(tick, processors, many):
            break
    else:
        return
    # the index is told by what is left, as counting along would take time in plans that are right
    raise InvalidPlan(len(plan) - len(list(ticks)) - 1)


def stands_apart(mask, others):
    """Return whether a set of processes, as bits, is within each other one, around it, or without a common process."""
    return all([mask & other in (0, mask, other) for other in others])


def check_groups(load, groups):
    """Raise InvalidGroups unless a value is groups of a load."""
    if type(groups) is not list or len(groups) > MOST_GROUPS:
        raise InvalidGroups(None)
    many = len(load[2])
    masks = []
    for index, group in enumerate(groups):
        if not is_tick(group, many, many) or not group:
            raise InvalidGroups(index)
        mask = sum([1 << process for process in group])
        if mask in masks or not stands_apart(mask, masks):
            raise InvalidGroups(index)
        masks.append(mask)


def is_pair(value, begin, end, many):
    """Return whether a value is a tuple (tick, process), the tick from begin to end - 1, the process one of so many."""
    if type(value) is not tuple or len(value) != 2:
        return False
    tick, process = value
    return is_integer_from(tick, begin, end - 1) and is_integer_from(process, 0, many - 1)


def first_wrong_pair(values, begin, end, many):
    """Return the index of the first item that is no tuple (tick, process) greater than the one ahead, or None."""
    for index, value in enumerate(values):
        if not is_pair(value, begin, end, many) or (index > 0 and value <= values[index - 1]):
            return index
    return None


def check_pairs(load, pairs):
    """Raise InvalidPairs unless a value is an ascending list of tuples (tick, process) of one round."""
    if type(pairs) is not list or len(pairs) > MOST_PAIRS:
        raise InvalidPairs(None)
    index = first_wrong_pair(pairs, 0, load[1], len(load[2]))
    if index is not None:
        raise InvalidPairs(index)


def check_counts(load, moment, counts):
    """Raise InvalidCounts unless each process of a load has a count: its due at a moment, rounded down or up."""
    _, period, shares = load
    if type(counts) is not list or len(counts) != len(shares):
        raise InvalidCounts(None)
    if not all([is_integer(count) for count in counts]):
        raise InvalidCounts(None)
    for index, (share, count) in enumerate(zip(shares, counts)):
        if abs(share * moment - period * count) >= period:
            raise InvalidCounts(index)
