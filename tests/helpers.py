"""What several tests use."""

from fractions import Fraction
from itertools import combinations, product
from math import ceil, floor

from evenslices import errors
from evenslices.console import Console
from evenslices.dispatchers import Dispatcher, RestingDispatcher, SureDispatcher, SureRestingDispatcher

BIG = 10 ** 30 - 1

# objects of the package, which are arguments as any other value
OBJECTS = [
    errors.SliceError("x"), errors.InvalidLoad(0), Console(), Dispatcher((1, 1, [1])), SureDispatcher((1, 2, [1])),
    RestingDispatcher((1, 3, [2, 1]), 1), SureRestingDispatcher((1, 6, [3, 2, 1]), 2),
]

# values that are no integer from 0 on
NO_NUMBERS = [None, True, False, -1, -BIG, "", "1", [], [1], (), (1,), {}, {"a": 1}, *OBJECTS]

# values that are no list
NO_LISTS = [None, True, False, 0, 7, "", "01", (), ([0],), {}, {"a": [0]}, *OBJECTS]

# values that are no load, each with its index
NO_LOADS = [
    *[(value, None) for value in [None, True, False, 0, 6, "", "1 6: 3 2 1", [], [1, 6, [1]], {}, {"a": 1}]],
    *[(value, None) for value in [(), (1,), (1, 6), (1, 6, [3, 2, 1], 0), ((1, 6, [1]),), *OBJECTS]],
    *[((value, 6, [1]), 0) for value in [None, True, False, 0, -1, 13, BIG, "1", [1], (1,), {}, *OBJECTS]],
    *[((value, 0, [0]), 0) for value in [None, 0, 13]],
    *[((1, value, [1]), 1) for value in [None, True, False, 0, -6, BIG + 1, 10 ** 40, "6", [6], (6,), {}]],
    *[((1, value, []), 1) for value in [None, 0, BIG + 1]],
    *[((1, 6, value), 2) for value in [*NO_LISTS, (3, 2, 1), [], [1] * 13, [3, 4], [6, 1], [7], [0], [0, 1], [1, 0]]],
    *[((1, 6, [1, value]), 2) for value in [None, True, False, 0, -1, 7, "1", [1], (1,), {}, BIG, *OBJECTS]],
    ((12, 6, [7]), 2),
    ((12, 1, [1] * 13), 2),
    ((3, 6, [1] * 13), 2),
    ((2, 3, [2, 2, 3]), 2),
    ((1, 6, [7, -1]), 2),
    ((1, BIG, [BIG, 1]), 2),
    ((1, 1, [True]), 2),
]

# values that are no plan of the load (2, 4, [2, 2, 2, 2]), each with its index
NO_PLANS = [
    *[(value, None) for value in [*NO_LISTS, ([0, 1], [2, 3]), [[0]] * 1001, [[]] * 1001, [None] * 1001]],
    *[([value], 0) for value in [None, True, 0, "0", (), (0,), {}, [4], [-1], [1, 0], [0, 0], [0, 1, 2], [BIG]]],
    *[([value], 0) for thing in OBJECTS for value in [thing, [thing], [0, thing]]],
    *[([[0, 1], value, [7]], 1) for value in [(2, 3), [True], [False], [0, True], [None], ["0"], [[0]], [2, 4]]],
    *[([[0]] * at + [[1, 0]] + [[0]] * (999 - at), at) for at in [0, 1, 500, 998, 999]],
]


def outcome(function, *values, **named):
    """Return the class and the fields of the error that a call raises; fail if there is none."""
    try:
        result = function(*values, **named)
    except errors.SliceError as error:
        return [error.__class__, vars(error)]
    raise AssertionError(f"{function.__name__} returned {result!r}")


def choices(names):
    """Return all lists of one or more of the names, in their sequence."""
    return [chosen for size in range(1, len(names) + 1) for chosen in combinations(names, size)]


def run_examples(test, names, text):
    """Run the examples of a text, as the document writes them, among the names, and compare what follows them."""
    lines = [line for line in text.splitlines() if line]
    for at, line in enumerate(lines):
        if not line.startswith(">>> "):
            continue
        told = lines[at + 1] if at + 1 < len(lines) and not lines[at + 1].startswith(">>> ") else None
        run_example(test, names, line[4:], told)


def run_example(test, names, code, told):
    with test.subTest(code=code):
        if told is None:
            exec(code, names)
        elif told.startswith("raises "):
            wanted = eval(told[7:], vars(errors).copy())
            if isinstance(wanted, type):
                test.assertEqual(outcome(eval, code, names), [wanted, {}])
            else:
                test.assertEqual(outcome(eval, code, names), [wanted.__class__, vars(wanted)])
        else:
            test.assertEqual(repr(eval(code, names)), told)


def small_loads(processors, period, many):
    """Return all loads with so many processors, a period up to this one and up to so many processes."""
    found = []
    for length in range(1, period + 1):
        for size in range(1, many + 1):
            for shares in product(range(1, length + 1), repeat=size):
                if sum(shares) <= processors * length:
                    found.append((processors, length, list(shares)))
    return found


def drawn_load(draw, processors, period, many):
    """Return a drawn load with at most so many processors and processes and at most this period, often a full one."""
    while True:
        size, length, room = draw.randint(1, many), draw.randint(1, period), draw.randint(1, processors)
        shares = [draw.randint(1, length) for _ in range(size)]
        if draw.random() < 0.6:
            shares[-1] = room * length - sum(shares[:-1])
        if 1 <= shares[-1] <= length and sum(shares) <= room * length:
            return room, length, shares


def drawn_groups(draw, many):
    """Return drawn groups of a load with so many processes: some sets of a drawn tree."""
    found, left = [], [list(range(many))]
    while left:
        members = left.pop()
        if draw.random() < 0.7:
            found.append(sorted(members))
        if len(members) > 1:
            draw.shuffle(members)
            cut = draw.randint(1, len(members) - 1)
            left += [members[:cut], members[cut:]]
    draw.shuffle(found)
    return found[:20]


def plain_failing(base, lags, period, shares):
    """Return the least m for which the sum of point 26 is above m, or None."""
    for ticks in range(1, period + 1):
        dues = [Fraction(lag, base) + Fraction(share * ticks, period) for lag, share in zip(lags, shares)]
        if sum(max(0, floor(due)) for due in dues) > ticks:
            return ticks
    return None


def due_ends(share, period, moment):
    """Return what is due at a moment, rounded down and up."""
    due = Fraction(share * moment, period)
    return floor(due), ceil(due)


def is_round(load, plan):
    """Return whether a list of ticks is a round plan, by point 5 and fractions."""
    processors, period, shares = load
    if len(plan) != period:
        return False
    for tick in plan:
        if tick != sorted(set(tick)) or len(tick) > processors or not set(tick) <= set(range(len(shares))):
            return False
    for moment in range(period + 1):
        for process, share in enumerate(shares):
            count = sum(tick.count(process) for tick in plan[:moment])
            if not -1 < Fraction(share * moment, period) - count < 1:
                return False
    return True


def round_plans(load):
    """Return all round plans of a small load, by going along with all ticks."""
    processors, period, shares = load
    ticks = [list(tick) for size in range(processors + 1) for tick in combinations(range(len(shares)), size)]
    plans = [([], (0,) * len(shares))]
    for moment in range(1, period + 1):
        ends = [due_ends(share, period, moment) for share in shares]
        longer = []
        for plan, counts in plans:
            for tick in ticks:
                told = tuple(count + (process in tick) for process, count in enumerate(counts))
                if all(least <= count <= most for count, (least, most) in zip(told, ends)):
                    longer.append((plan + [tick], told))
        plans = longer
    return [plan for plan, _ in plans]
