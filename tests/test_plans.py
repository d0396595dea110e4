"""Points 15 and 16, with the definitions of points 5 to 7."""

import unittest
from fractions import Fraction
from itertools import combinations, product

from evenslices import errors
from evenslices.loads import rest_load
from evenslices.plans import (
    counts_of, extreme_lags, far_count, far_tick, first_off, is_even, is_plan, lag_numbers, rests_of,
)
from tests.helpers import BIG, outcome

SMALL = [
    (1, 1, [1]), (1, 2, [1]), (1, 3, [3]), (1, 4, [2, 1]), (1, 4, [2, 1, 1]), (2, 3, [2, 2, 2]), (2, 3, [3, 1]),
    (2, 4, [1, 1, 4]), (3, 2, [2, 2, 1]), (2, 1, [1, 1]),
]


def small_plans(load):
    """Return all plans of at most four ticks."""
    ticks = [list(tick) for size in range(load[0] + 1) for tick in combinations(range(len(load[2])), size)]
    return [list(plan) for many in range(5) for plan in product(ticks, repeat=many)]


def plain_lags(load, plan):
    """Return the lags at all moments as point 5 tells them, in fractions."""
    rows = []
    for moment in range(len(plan) + 1):
        counts = [sum(tick.count(process) for tick in plan[:moment]) for process in range(len(load[2]))]
        rows.append([Fraction(share * moment, load[1]) - count for share, count in zip(load[2], counts)])
    return rows


def plain_off(load, plan):
    for moment, lags in enumerate(plain_lags(load, plan)):
        for process, lag in enumerate(lags):
            if lag <= -1 or lag >= 1:
                return moment, process
    return None


class AllSmallPlans(unittest.TestCase):
    def test_against_fractions(self):
        for load in SMALL:
            for plan in small_plans(load):
                with self.subTest(load=load, plan=plan):
                    self.check(load, plan, plain_lags(load, plan))

    def check(self, load, plan, lags):
        period = load[1]
        numbers = [[lag * period for lag in row] for row in lags]
        counts = [sum(tick.count(process) for tick in plan) for process in range(len(load[2]))]
        self.assertIs(is_plan(load, plan), True)
        self.assertEqual(counts_of(load, plan), counts)
        self.assertEqual(lag_numbers(load, plan), numbers[-1])
        self.assertEqual(extreme_lags(load, plan), (min(map(min, numbers)), max(map(max, numbers))))
        self.assertEqual(first_off(load, plan), plain_off(load, plan))
        self.assertIs(is_even(load, plan), plain_off(load, plan) is None)

    def test_rests(self):
        for load in SMALL:
            everyone = range(len(load[2]))
            for plan in small_plans(load):
                wanted = [sorted(set(everyone) - set(tick)) for tick in plan]
                self.assertEqual(rests_of(load, plan), wanted)

    def test_round_plans(self):
        for load in SMALL:
            for plan in small_plans(load):
                if len(plan) == load[1] and plain_off(load, plan) is None:
                    with self.subTest(load=load, plan=plan):
                        self.check_round(load, plan)
                else:
                    with self.subTest(load=load, plan=plan):
                        self.assertEqual(outcome(far_count, load, plan, 0, 0), [errors.NotRound, {}])
                        self.assertEqual(outcome(far_tick, load, plan, 0), [errors.NotRound, {}])

    def check_round(self, load, plan):
        again = plan * 3
        for moment in range(len(again) + 1):
            counts = [far_count(load, plan, process, moment) for process in range(len(load[2]))]
            self.assertEqual(counts, counts_of(load, again[:moment]))
        self.assertEqual([far_tick(load, plan, tick) for tick in range(len(again))], again)
        self.assertIs(is_even(load, again), True)


class EmptyAndLongPlans(unittest.TestCase):
    def test_empty_plan(self):
        for load in [(1, 6, [3, 2, 1]), (1, 1, [1]), (12, BIG, [BIG] * 12)]:
            nothing = [0] * len(load[2])
            with self.subTest(load=load):
                self.assertIs(is_plan(load, []), True)
                self.assertEqual([counts_of(load, []), lag_numbers(load, [])], [nothing, nothing])
                self.assertEqual([extreme_lags(load, []), first_off(load, []), rests_of(load, [])], [(0, 0), None, []])
                self.assertIs(is_even(load, []), True)
                self.assertEqual(outcome(far_count, load, [], 0, 0), [errors.NotRound, {}])

    def test_plan_of_1000_ticks(self):
        load = (1, 1000, [500, 500])
        plan = [[0], [1]] * 500
        self.assertIs(is_plan(load, plan), True)
        self.assertEqual([counts_of(load, plan), lag_numbers(load, plan)], [[500, 500], [0, 0]])
        self.assertEqual([extreme_lags(load, plan), first_off(load, plan)], [(-500, 500), None])
        self.assertEqual(rests_of(load, plan), [[1], [0]] * 500)
        self.assertEqual([far_count(load, plan, 0, BIG), far_count(load, plan, 1, BIG)], [BIG // 2 + 1, BIG // 2])
        self.assertEqual([far_tick(load, plan, BIG), far_tick(load, plan, BIG - 1)], [[1], [0]])

    def test_plan_of_1001_ticks(self):
        load = (1, 1001, [500, 501])
        plan = [[1]] + [[0], [1]] * 500
        wanted = [errors.InvalidPlan, {"index": None}]
        self.assertIs(is_plan(load, plan), False)
        for function in [counts_of, lag_numbers, first_off, is_even, extreme_lags, rests_of]:
            self.assertEqual(outcome(function, load, plan), wanted)
        self.assertEqual(outcome(far_count, load, plan, 0, 0), wanted)
        self.assertEqual(outcome(far_tick, load, plan, 0), wanted)
        self.assertEqual(outcome(far_tick, load, plan[:1000], 0), [errors.NotRound, {}])

    def test_twelve_processors(self):
        load = (12, 2, [2] * 11 + [1])
        everyone = list(range(12))
        plan = [everyone, everyone[:11]]
        self.assertEqual([first_off(load, plan), first_off(load, plan[::-1])], [None, None])
        self.assertEqual(rests_of(load, plan), [[], [11]])
        self.assertEqual(first_off(load, [everyone, everyone]), (2, 11))


class Evenness(unittest.TestCase):
    def test_off_at_the_first_moment(self):
        self.assertEqual(first_off((2, 6, [6, 3]), [[1], [0, 1]]), (1, 0))
        self.assertEqual(first_off((2, 1, [1, 1]), [[0]]), (1, 1))
        self.assertEqual(first_off((2, 1, [1, 1]), [[]]), (1, 0))

    def test_off_at_a_middle_moment(self):
        load = (1, 6, [3, 2, 1])
        self.assertEqual(first_off(load, [[0], [0], [1], [0], [2], [1]]), (2, 0))
        self.assertEqual(first_off(load, [[0], [2], [0], [0], [1], [1]]), (3, 1))
        self.assertEqual(first_off(load, [[0], [1], [0], [0], [2], [1]]), (4, 0))
        self.assertEqual(first_off(load, [[0], [2], [1], [0], [1], [0]]), None)

    def test_off_at_the_last_moment(self):
        load = (1, 6, [3, 2, 1])
        self.assertEqual(first_off(load, [[0], [1], [0], [1], [0], [0]]), (6, 0))
        self.assertEqual(first_off(load, [[0], [1], [0], [1], [0], []]), (6, 2))
        self.assertIs(is_even(load, [[0], [1], [0], [1], [0], []]), False)
        self.assertIs(is_even(load, [[0], [1], [0], [1], [0]]), True)

    def test_lag_of_one_and_of_minus_one_is_off(self):
        self.assertEqual(first_off((1, 2, [1]), [[], []]), (2, 0))
        self.assertEqual(first_off((1, 2, [1]), [[0], [0]]), (2, 0))
        self.assertEqual(first_off((1, 3, [1, 1]), [[0], [], [0]]), (3, 0))

    def test_the_least_process_counts(self):
        self.assertEqual(first_off((1, 4, [2, 2]), [[], []]), (2, 0))
        self.assertEqual(first_off((2, 4, [2, 2]), [[0], [0]]), (2, 0))
        self.assertEqual(first_off((2, 4, [1, 2, 2]), [[0], []]), (2, 1))

    def test_even_again_is_still_off(self):
        load = (1, 2, [1, 1])
        plan = [[0], [0], [1], [1]]
        self.assertEqual([lag_numbers(load, plan), first_off(load, plan)], [[0, 0], (2, 0)])

    def test_great_periods(self):
        load = (2, BIG, [BIG - 1, BIG // 2, 1])
        self.assertEqual(lag_numbers(load, [[0, 1], [0]]), [-2, -1, 2])
        self.assertEqual(extreme_lags(load, [[0, 1], [0]]), (BIG // 2 - BIG, 2))
        self.assertEqual([first_off(load, [[], [0]]), first_off(load, [[], []])], [None, (2, 0)])
        self.assertEqual(outcome(far_count, load, [[0, 1]], 0, 0), [errors.NotRound, {}])

    def test_plans_of_the_rests_are_even(self):
        load = (2, 3, [2, 2, 2])
        for plan in small_plans(load):
            full = all(len(tick) == 2 for tick in plan)
            if full and is_even(load, plan):
                self.assertIs(is_plan(rest_load(load), rests_of(load, plan)), True)
                self.assertIs(is_even(rest_load(load), rests_of(load, plan)), True)


class Far(unittest.TestCase):
    load, plan = (2, 5, [3, 4, 2]), [[0, 1], [1, 2], [0, 1], [0], [1, 2]]

    def test_round_plan(self):
        self.assertIs(is_even(self.load, self.plan), True)

    def test_counts(self):
        for moment in [0, 1, 4, 5, 6, 10 ** 29, 10 ** 29 + 3, BIG - 1, BIG]:
            rounds, rest = moment // 5, moment % 5
            for process, share in enumerate(self.load[2]):
                begun = sum(tick.count(process) for tick in self.plan[:rest])
                with self.subTest(moment=moment, process=process):
                    self.assertEqual(far_count(self.load, self.plan, process, moment), rounds * share + begun)

    def test_ticks(self):
        for tick in [0, 1, 4, 5, 6, 10 ** 29, 10 ** 29 + 3, BIG - 1, BIG]:
            with self.subTest(tick=tick):
                self.assertEqual(far_tick(self.load, self.plan, tick), self.plan[tick % 5])

    def test_period_1(self):
        self.assertEqual(far_count((2, 1, [1]), [[0]], 0, BIG), BIG)
        self.assertEqual(far_tick((2, 1, [1, 1]), [[0, 1]], BIG), [0, 1])

    def test_not_round(self):
        plans = [[], self.plan[:4], self.plan + [[0, 1]], self.plan * 2, [[]] * 5, [[0, 1]] * 5, self.plan[1:] + [[0]]]
        for plan in plans:
            with self.subTest(plan=plan):
                self.assertEqual(outcome(far_count, self.load, plan, 0, 0), [errors.NotRound, {}])
                self.assertEqual(outcome(far_tick, self.load, plan, 0), [errors.NotRound, {}])
