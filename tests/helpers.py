"""What several tests use."""

from itertools import combinations

from evenslices import errors

BIG = 10 ** 30 - 1

# values that are no integer from 0 on
NO_NUMBERS = [None, True, False, -1, -BIG, "", "1", [], [1], (), (1,), {}, {"a": 1}, errors.SliceError("x")]

# values that are no list
NO_LISTS = [None, True, False, 0, 7, "", "01", (), ([0],), {}, {"a": [0]}, errors.SliceError("x")]

# values that are no load, each with its index
NO_LOADS = [
    *[(value, None) for value in [None, True, False, 0, 6, "", "1 6: 3 2 1", [], [1, 6, [1]], {}, {"a": 1}]],
    *[(value, None) for value in [(), (1,), (1, 6), (1, 6, [3, 2, 1], 0), ((1, 6, [1]),), errors.SliceError("x")]],
    *[((value, 6, [1]), 0) for value in [None, True, False, 0, -1, 13, BIG, "1", [1], (1,), {}]],
    *[((value, 0, [0]), 0) for value in [None, 0, 13]],
    *[((1, value, [1]), 1) for value in [None, True, False, 0, -6, BIG + 1, 10 ** 40, "6", [6], (6,), {}]],
    *[((1, value, []), 1) for value in [None, 0, BIG + 1]],
    *[((1, 6, value), 2) for value in [*NO_LISTS, (3, 2, 1), [], [1] * 13, [3, 4], [6, 1], [7], [0], [0, 1], [1, 0]]],
    *[((1, 6, [1, value]), 2) for value in [None, True, False, 0, -1, 7, "1", [1], (1,), {}, BIG]],
    ((12, 6, [7]), 2),
    ((12, 1, [1] * 13), 2),
    ((3, 6, [1] * 13), 2),
    ((2, 3, [2, 2, 3]), 2),
    ((1, 6, [7, -1]), 2),
    ((1, BIG, [BIG, 1]), 2),
    ((1, 1, [True]), 2),
]

# values that are no plan of the load (2, 4, [2, 2, 2, 2]), each with its index
NO_PLANS = [
    *[(value, None) for value in [*NO_LISTS, ([0, 1], [2, 3]), [[0]] * 1001, [[]] * 1001, [None] * 1001]],
    *[([value], 0) for value in [None, True, 0, "0", (), (0,), {}, [4], [-1], [1, 0], [0, 0], [0, 1, 2], [BIG]]],
    *[([[0, 1], value, [7]], 1) for value in [(2, 3), [True], [False], [0, True], [None], ["0"], [[0]], [2, 4]]],
    *[([[0]] * at + [[1, 0]] + [[0]] * (999 - at), at) for at in [0, 1, 500, 998, 999]],
]


def outcome(function, *values, **named):
    """Return the class and the fields of the error that a call raises; fail if there is none."""
    try:
        result = function(*values, **named)
    except errors.SliceError as error:
        return [error.__class__, vars(error)]
    raise AssertionError(f"{function.__name__} returned {result!r}")


def choices(names):
    """Return all lists of one or more of the names, in their sequence."""
    return [chosen for size in range(1, len(names) + 1) for chosen in combinations(names, size)]


def run_examples(test, names, text):
    """Run the examples of a text, as the document writes them, among the names, and compare what follows them."""
    lines = [line for line in text.splitlines() if line]
    for at, line in enumerate(lines):
        if not line.startswith(">>> "):
            continue
        told = lines[at + 1] if at + 1 < len(lines) and not lines[at + 1].startswith(">>> ") else None
        run_example(test, names, line[4:], told)


def run_example(test, names, code, told):
    with test.subTest(code=code):
        if told is None:
            exec(code, names)
        elif told.startswith("raises "):
            wanted = eval(told[7:], vars(errors).copy())
            if isinstance(wanted, type):
                test.assertEqual(outcome(eval, code, names), [wanted, {}])
            else:
                test.assertEqual(outcome(eval, code, names), [wanted.__class__, vars(wanted)])
        else:
            test.assertEqual(repr(eval(code, names)), told)
