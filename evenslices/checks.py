"""Checks of parameters that several modules have in common."""

from evenslices.errors import InvalidLoad, InvalidNumber, InvalidPlan, InvalidProcess

MOST_PROCESSORS = 12
MOST_PROCESSES = 12
MOST_TICKS = 1000


def is_integer(value):
    """Return whether a value is an int that is not a bool."""
    return isinstance(value, int) and not isinstance(value, bool)


def is_integer_from(value, least, most):
    """Return whether a value is an integer from least to most."""
    return is_integer(value) and least <= value <= most


def are_shares(value, processors, period):
    """Return whether a value is a list of shares of a load."""
    # not isinstance: where the document names a list or a tuple, it means exactly this kind
    if type(value) is not list or not 1 <= len(value) <= MOST_PROCESSES:
        return False
    for share in value:
        if not is_integer_from(share, 1, period):
            return False
    return sum(value) <= processors * period


def check_load(load):
    """Raise InvalidLoad unless a value is a load."""
    if type(load) is not tuple or len(load) != 3:
        raise InvalidLoad(None)
    processors, period, shares = load
    if not is_integer_from(processors, 1, MOST_PROCESSORS):
        raise InvalidLoad(0)
    if not is_integer_from(period, 1, 10 ** 30 - 1):
        raise InvalidLoad(1)
    if not are_shares(shares, processors, period):
        raise InvalidLoad(2)


def check_process(load, process):
    """Raise InvalidProcess unless a value is a process of a load."""
    if not is_integer_from(process, 0, len(load[2]) - 1):
        raise InvalidProcess("not a process of the load")


def check_number(value, name):
    """Raise InvalidNumber unless the value of the parameter of this name is an integer from 0 on."""
    # the value stays out of the message: Python refuses to write very long integers
    if not is_integer(value) or value < 0:
        raise InvalidNumber(f"{name} is not an integer from 0 on")


def is_tick(value, processors, many):
    """Return whether a value is an ascending list of at most so many of the processes from 0 to many - 1."""
    if type(value) is not list or len(value) > processors:
        return False
    least = 0
    for process in value:
        if not is_integer_from(process, least, many - 1):
            return False
        least = process + 1
    return True


def check_plan(load, plan):
    """Raise InvalidPlan unless a value is a plan of a load."""
    if type(plan) is not list or len(plan) > MOST_TICKS:
        raise InvalidPlan(None)
    processors, _, shares = load
    for index, tick in enumerate(plan):
        if not is_tick(tick, processors, len(shares)):
            raise InvalidPlan(index)
