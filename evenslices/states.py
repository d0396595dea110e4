"""States: the counts on one processor that can be reached, and with which the processes can go on."""

from evenslices.checks import check_counts, check_load, check_number, check_single
from evenslices.lagging import failing
from evenslices.loads import rounded_up


def check_state(load, moment, counts):
    """Raise the error of the first parameter that is wrong, or NotSingle."""
    check_load(load)
    check_number(moment, "moment")
    check_counts(load, moment, counts)
    check_single(load)


def doom(load, moment, counts):
    """Return how many ticks behind a moment there are too few for all slices whose windows end in them, or None."""
    _, period, shares = load
    lags = [share * moment - period * count for share, count in zip(shares, counts)]
    return failing(lags, shares, period, period)


def crowd(load, moment, counts):
    """Return how many ticks ahead of a moment there are too few for all slices that have begun in them, or None."""
    _, period, shares = load
    many = min(moment, period)
    begins = [0] * (many + 1)
    for share, count in zip(shares, counts):
        ahead = rounded_up(share * (moment - many), period)
        for number in range(ahead, count):
            begins[moment - number * period // share] += 1
    total = 0
    for ticks, number in enumerate(begins):
        total += number
        if total > ticks:
            return ticks
    return None


def doomed_by(load, moment, counts):
    """Return the moment by which counts are doomed, or None if they can go on."""
    check_state(load, moment, counts)
    ticks = doom(load, moment, counts)
    return None if ticks is None else moment + ticks


def too_many_since(load, moment, counts):
    """Return the last moment since which there are too many slices for counts to be reached, or None if they can."""
    check_state(load, moment, counts)
    ticks = crowd(load, moment, counts)
    return None if ticks is None else moment - ticks


def can_go_on(load, moment, counts):
    """Return whether the processes can go on for ever from counts at a moment."""
    return doomed_by(load, moment, counts) is None


def can_be_reached(load, moment, counts):
    """Return whether an even plan can have these counts at a moment."""
    return too_many_since(load, moment, counts) is None


def is_state(load, moment, counts):
    """Return whether some even plan without end has these counts at a moment."""
    check_state(load, moment, counts)
    return doom(load, moment, counts) is None and crowd(load, moment, counts) is None


def due_choices(load, moment):
    """Return the ascending list of all counts of which each one is its due rounded down or up."""
    _, period, shares = load
    choices = [[]]
    for share in shares:
        due = share * moment
        ends = [due // period, rounded_up(due, period)]
        choices = [[*counts, count] for counts in choices for count in ends[:1 if ends[0] == ends[1] else 2]]
    return choices


def states_at(load, moment):
    """Return the ascending list of all states at a moment."""
    check_load(load)
    check_number(moment, "moment")
    check_single(load)
    return [
        counts for counts in due_choices(load, moment)
        if doom(load, moment, counts) is None and crowd(load, moment, counts) is None
    ]
