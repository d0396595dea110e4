"""Points 28 and 29."""

import unittest
from itertools import combinations
from random import Random

from evenslices import errors
from evenslices.limits import least_limit, limit_plan, limit_ticks, limit_window, shows_limit
from evenslices.loads import window_of
from tests.helpers import BIG, NO_LISTS, NO_NUMBERS, drawn_load, is_round, outcome, round_plans, small_loads

LOADS = [
    *small_loads(1, 4, 3), *small_loads(2, 3, 3), (1, 6, [3, 2, 1]), (2, 3, [2, 2, 2]), (1, 5, [2, 3]), (1, 6, [2, 2]),
    (1, 4, [1, 1, 1, 1]), (2, 4, [2, 2, 2, 2]), (2, 5, [3, 4, 2]), (3, 4, [3, 3, 3, 3]), (1, 6, [1, 1, 1, 3]),
    (12, 3, [2, 2, 1]), (5, 3, [1, 2, 3]), (3, 5, [4, 4, 4, 3]), (1, 7, [2, 2, 2, 1]), (1, 5, [5]), (2, 6, [5, 4, 3]),
]

LARGE = [
    (1, 40, [7, 3, 10, 5, 2, 5, 5, 3]), (3, 40, [17, 13, 20, 15, 12, 15, 15, 13]), (5, 40, [25] * 8), (1, 40, [5] * 8),
    (4, 40, [39, 39, 39, 3, 10, 10, 10, 10]), (1, 40, [40]), (7, 40, [35] * 8), (1, 40, [39, 1]),
    (4, 39, [31, 17, 19, 23, 11, 29, 7, 19]), (12, 40, [1, 2, 3, 39, 40, 20]),
    (1, 40, [1]), (2, 37, [36, 1, 18, 19]), (8, 40, [40] * 8),
]


def greatest_lag(load, plan):
    """Return how far from 0 the lag numbers of a plan get, tick by tick."""
    _, period, shares = load
    lags, most = [0] * len(shares), 0
    for row in plan:
        lags = [lag + share - period * (process in row) for process, (lag, share) in enumerate(zip(lags, shares))]
        most = max([most, *map(abs, lags)])
    return most


def plain_window(load, process, number, limit):
    """Return the ticks at which a slice keeps a limit, by the lag numbers ahead of it and behind it."""
    _, period, shares = load
    share = shares[process]
    return [
        tick for tick in range(period)
        if share * tick - period * number <= limit and share * (tick + 1) - period * (number + 1) >= -limit
    ]


def most_placed(spans, ticks):
    """Return how many slices get a tick of their own at most, by exchanging ticks."""
    taken = {}

    def place(at, tried):
        for tick in spans[at]:
            if tick in ticks and tick not in tried:
                tried.add(tick)
                if tick not in taken or place(taken[tick], tried):
                    taken[tick] = at
                    return True
        return False

    return sum(place(at, set()) for at in range(len(spans)))


def plain_shows(load, limit, ticks):
    """Return whether a list of ticks shows that no plan keeps a limit, slice by slice."""
    processors, period, shares = load
    outside = [tick for tick in range(period) if tick not in ticks]
    needs = 0
    for process, share in enumerate(shares):
        spans = [plain_window(load, process, number, limit) for number in range(share)]
        needs += share - most_placed(spans, outside)
    return needs > processors * len(ticks)


class Windows(unittest.TestCase):
    def test_against_lag_numbers(self):
        for load in [*LOADS, *LARGE]:
            for process, share in enumerate(load[2]):
                for limit in range(0, load[1], 1 if load[1] < 10 else 7):
                    with self.subTest(load=load, process=process, limit=limit):
                        for number in range(share):
                            first, last = limit_window(load, process, number, limit)
                            wanted = plain_window(load, process, number, limit)
                            self.assertEqual(list(range(first, last + 1)), wanted)

    def test_ends_are_those_of_the_point(self):
        load = (1, 5, [2, 3])
        self.assertEqual([limit_window(load, 0, number, 2) for number in [0, 1]], [(1, 1), (3, 3)])
        self.assertEqual([limit_window(load, 1, number, 0) for number in [0, 1, 2]], [(1, 0), (3, 1), (4, 3)])
        self.assertEqual(limit_window((1, BIG, [1, 1]), 1, 0, BIG - 1), (0, BIG - 1))

    def test_the_greatest_limit_leaves_the_whole_windows(self):
        for load in [*LOADS, *LARGE]:
            for process, share in enumerate(load[2]):
                for number in range(share):
                    self.assertEqual(
                        limit_window(load, process, number, load[1] - 1), window_of(load, process, number)
                    )

    def test_wrong_numbers(self):
        load = (1, 6, [3, 2, 1])
        for value in [*NO_NUMBERS, 3, BIG]:
            self.assertEqual(outcome(limit_window, load, 0, value, 5), [errors.InvalidNumber, {}])
        for number in [1, 2]:
            self.assertEqual(outcome(limit_window, load, 2, number, 5), [errors.InvalidNumber, {}])
        for value in [*NO_NUMBERS, 6, BIG]:
            for call in [
                (limit_window, load, 0, 0, value), (limit_plan, load, value), (limit_ticks, load, value),
                (shows_limit, load, value, []), (shows_limit, load, value, None),
            ]:
                self.assertEqual(outcome(*call), [errors.InvalidNumber, {}])


class Plans(unittest.TestCase):
    def test_least_limit_against_all_plans(self):
        for load in LOADS:
            with self.subTest(load=load):
                wanted = min(greatest_lag(load, plan) for plan in round_plans(load))
                self.assertEqual(least_limit(load), wanted)

    def judge(self, load, limit):
        """Check the answers for a limit, and return whether there is a plan."""
        plan, ticks = limit_plan(load, limit), limit_ticks(load, limit)
        self.assertNotEqual(plan is None, ticks is None)
        if plan is None:
            self.assertEqual(ticks, sorted(set(ticks)))
            self.assertTrue(set(ticks) <= set(range(load[1])))
            self.assertTrue(plain_shows(load, limit, ticks))
            self.assertIs(shows_limit(load, limit, ticks), True)
            return False
        self.assertTrue(is_round(load, plan))
        self.assertLessEqual(greatest_lag(load, plan), limit)
        return True

    def test_each_limit(self):
        for load in [*LOADS, *LARGE]:
            with self.subTest(load=load):
                told = [self.judge(load, limit) for limit in range(load[1])]
                self.assertEqual(told, sorted(told))
                self.assertEqual(told.index(True), least_limit(load))

    def test_drawn_loads(self):
        draw = Random(28)
        empty = full = 0
        for _ in range(150):
            load = drawn_load(draw, 6, draw.choice([8, 16, 40]), 8)
            with self.subTest(load=load):
                least = least_limit(load)
                self.assertTrue(self.judge(load, least))
                for limit in range(max(0, least - 3), least):
                    self.assertFalse(self.judge(load, limit))
                    if limit_ticks(load, limit):
                        full += 1
                    else:
                        empty += 1
        self.assertGreater(min(empty, full), 20)


class Shows(unittest.TestCase):
    def test_against_the_count_of_the_point(self):
        loads = [load for load in LOADS if load[1] > 2]
        for load in loads[::3] + [(1, 6, [3, 2, 1]), (2, 5, [3, 4, 2]), (3, 5, [4, 4, 4, 3]), (1, 7, [2, 2, 2, 1])]:
            every = [
                list(ticks) for size in range(load[1] + 1) for ticks in combinations(range(load[1]), size)
            ]
            for limit in range(load[1]):
                with self.subTest(load=load, limit=limit):
                    told = [shows_limit(load, limit, ticks) for ticks in every]
                    self.assertEqual(told, [plain_shows(load, limit, ticks) for ticks in every])
                    self.assertIs(any(told), limit < least_limit(load))

    def test_an_empty_window_shows_by_itself(self):
        self.assertIs(shows_limit((1, 5, [2, 3]), 1, []), True)
        self.assertIs(shows_limit((1, 5, [2, 3]), 1, [0, 1, 2, 3, 4]), False)
        self.assertEqual(limit_ticks((1, 5, [5]), 0), None)

    def test_values_that_are_no_such_list(self):
        load = (1, 4, [1, 1, 1, 1])
        right = limit_ticks(load, 2)
        self.assertIs(shows_limit(load, 2, right), True)
        wrong = [
            *NO_LISTS, tuple(right), right[::-1] + right, [*right, *right], [None], [True], [False], [0, True], [-1],
            [4], [0, 4], [1, 0], [0, 0], [0, 1, 1], ["0"], [[0]], [(0,)], [BIG], [*right, None],
        ]
        for value in wrong:
            with self.subTest(value=value):
                self.assertIs(shows_limit(load, 2, value), False)
                # here most lists of ticks show it
                self.assertIs(shows_limit((1, 4, [2, 1]), 0, value), False)
