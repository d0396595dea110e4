"""Rules that tell tick by tick which process runs on one processor, and how even they are."""

from evenslices.checks import check_load, check_number, check_single
from evenslices.errors import InvalidRule, NotFull
from evenslices.lagging import first_end, lags_behind, most_behind, next_end, not_even

RULES = ("first end", "without waiting", "most behind")
MOST_TICKS = 1000


def check_rule(rule):
    """Raise InvalidRule unless a value is a rule."""
    if type(rule) is not str or rule not in RULES:
        raise InvalidRule("not a rule")


def check_match(load, rule):
    """Raise NotSingle or NotFull unless a rule is for a load."""
    check_single(load)
    _, period, shares = load
    if rule != "first end" and sum(shares) < period:
        raise NotFull("the load is not full")


def turn(rule, lags, shares, period):
    """Return the process that runs in the next tick by a rule, or None."""
    if rule == "first end":
        return first_end(lags, shares, period)
    if rule == "without waiting":
        return next_end(lags, shares, period)
    return most_behind(lags, shares)


def steps(load, rule, many):
    """Return for each of the first ticks the tuple of the process that runs, or None, and the lag numbers behind it."""
    _, period, shares = load
    lags = [0] * len(shares)
    found = []
    for _ in range(many):
        process = turn(rule, lags, shares, period)
        lags = lags_behind(lags, shares, period, process)
        found.append((process, lags))
    return found


def rule_plan(load, rule, many):
    """Return the first ticks by a rule."""
    check_load(load)
    check_rule(rule)
    check_number(many, "many", MOST_TICKS)
    check_match(load, rule)
    return [[] if process is None else [process] for process, _ in steps(load, rule, many)]


def rule_off(load, rule):
    """Return the first moment of a round at which some process is not even by a rule, and the least such process."""
    check_load(load)
    check_rule(rule)
    check_match(load, rule)
    for tick, (_, lags) in enumerate(steps(load, rule, load[1])):
        process = not_even(lags, load[1])
        if process is not None:
            return tick + 1, process
    return None


def rule_lags(load, rule):
    """Return the least and the greatest lag number of all processes in a round by a rule."""
    check_load(load)
    check_rule(rule)
    check_match(load, rule)
    # at moment 0 all lag numbers are 0
    rows = [lags for _, lags in steps(load, rule, load[1])]
    return min(0, min([min(lags) for lags in rows])), max(0, max([max(lags) for lags in rows]))
