"""Points 15 and 16 for long plans: right answers against plain walks, and few steps."""

import sys
import unittest
from fractions import Fraction
from random import Random

from evenslices import errors
from evenslices.plans import (
    counts_of, extreme_lags, far_count, far_tick, first_off, is_even, is_plan, lag_numbers, rests_of,
)
from tests.helpers import drawn_load, due_ends, outcome


def first_ends(load, counts, tick):
    """Return the processes whose next slices can be at a tick, those first whose windows end first."""
    _, period, shares = load
    nexts = enumerate(zip(shares, counts))
    heads = [(due_ends(period, share, count + 1)[1], process) for process, (share, count) in nexts
             if period * count < share * (tick + 1)]
    return [process for _, process in sorted(heads)]


def drawn_plan(draw, load, many):
    """Return a plan of so many ticks in which mostly the slices run whose windows end first, with a few other ticks."""
    processors, period, shares = load
    counts, plan = [0] * len(shares), []
    wild = draw.choice([0, 0, 0.05, 0.5, 1])
    for tick in range(many):
        row = sorted(first_ends(load, counts, tick)[:processors])
        if draw.random() < wild:
            row = sorted(draw.sample(range(len(shares)), draw.randint(0, min(processors, len(shares)))))
        for process in row:
            counts[process] += 1
        plan.append(row)
    return plan


def walk(load, plan):
    """Return the lag numbers at all moments, tick by tick."""
    _, period, shares = load
    lags = [0] * len(shares)
    rows = [lags]
    for tick in plan:
        lags = [lag + share for lag, share in zip(lags, shares)]
        lags = [lag - period if process in tick else lag for process, lag in enumerate(lags)]
        rows.append(lags)
    return rows


def plain_off(load, rows):
    for moment, lags in enumerate(rows):
        for process, lag in enumerate(lags):
            if not -1 < Fraction(lag, load[1]) < 1:
                return moment, process
    return None


class AgainstPlainWalks(unittest.TestCase):
    def check(self, load, plan):
        rows = walk(load, plan)
        off = plain_off(load, rows)
        self.assertEqual(first_off(load, plan), off)
        self.assertIs(is_even(load, plan), off is None)
        self.assertEqual(extreme_lags(load, plan), (min(map(min, rows)), max(map(max, rows))))
        self.assertEqual(lag_numbers(load, plan), rows[-1])
        everyone = range(len(load[2]))
        self.assertEqual(counts_of(load, plan), [sum(process in tick for tick in plan) for process in everyone])
        self.assertEqual(rests_of(load, plan), [[p for p in everyone if p not in tick] for tick in plan])
        self.assertIs(is_plan(load, plan), True)
        if off is None and len(plan) == load[1]:
            for moment in [0, 1, len(plan) // 2, len(plan), 7 * len(plan) + len(plan) // 3, 10 ** 20]:
                rounds, rest = divmod(moment, len(plan))
                for process, share in enumerate(load[2]):
                    begun = sum(process in tick for tick in plan[:rest])
                    self.assertEqual(far_count(load, plan, process, moment), rounds * share + begun)
                self.assertEqual(far_tick(load, plan, moment), plan[rest])
        else:
            self.assertEqual(outcome(far_count, load, plan, 0, 0), [errors.NotRound, {}])
            self.assertEqual(outcome(far_tick, load, plan, 0), [errors.NotRound, {}])
        return off is None

    def test_drawn_plans(self):
        draw = Random(15)
        told = {(single, even): 0 for single in [True, False] for even in [True, False]}
        for turn in range(600):
            load = drawn_load(draw, 1 if turn % 2 else 5, draw.choice([3, 12, 60]), 6)
            many = load[1] if draw.random() < 0.4 else draw.randint(0, 60)
            plan = drawn_plan(draw, load, many)
            with self.subTest(load=load, plan=plan):
                told[turn % 2 == 1, self.check(load, plan)] += 1
        self.assertGreater(min(told.values()), 80)

    def test_plans_of_1000_ticks_that_are_off(self):
        load = (1, 1000, [300, 250, 200, 150, 99, 1])
        even, counts = [], [0] * 6
        for tick in range(1000):
            even.append(first_ends(load, counts, tick)[:1])
            counts[even[-1][0]] += 1
        self.assertTrue(self.check(load, even))
        for at in [0, 1, 499, 500, 998, 999]:
            for row in [[], [0], [2], [4], [5]]:
                if row != even[at]:
                    plan = even[:at] + [row] + even[at + 1:]
                    with self.subTest(at=at, row=row):
                        self.assertFalse(self.check(load, plan))
        self.assertEqual(first_off(load, even[:999] + [[]]), (1000, even[999][0]))
        self.assertEqual(first_off((1, 1000, [1000]), [[]] + [[0]] * 999), (1, 0))
        self.assertEqual(first_off((1, 1000, [1]), [[0]] * 2 + [[]] * 998), (2, 0))
        for at in [0, 500, 999]:
            plan = [[0]] * at + [[]] + [[0]] * (999 - at)
            self.assertEqual(first_off((1, 1000, [1000]), plan), (at + 1, 0))
            self.check((1, 1000, [1000]), plan)
        self.assertEqual(first_off((1, 1000, [1]), [[]] * 1000), (1000, 0))
        self.assertIsNone(first_off((1, 1000, [1]), [[]] * 999))

    def test_plans_of_1000_ticks_on_several_processors(self):
        load = (3, 1000, [900, 800, 700, 300, 200, 100])
        plan = [[0, 1, 2] if tick % 2 else [0, 3, 4] for tick in range(1000)]
        self.check(load, plan)
        everyone = [[0, 1, 2]] * 1000
        self.assertTrue(self.check((3, 1000, [1000] * 3), everyone))
        for at in [0, 500, 999]:
            for row in [[], [0, 1], [1, 2], [0, 2]]:
                plan = everyone[:at] + [row] + everyone[at + 1:]
                self.assertFalse(self.check((3, 1000, [1000] * 3), plan))
                self.assertEqual(first_off((3, 1000, [1000] * 3), plan)[0], at + 1)

    def test_the_least_process_of_the_least_moment(self):
        # the first process is off later than the others
        self.assertEqual(first_off((1, 12, [2, 3, 4]), [[]] * 12), (3, 2))
        self.assertEqual(first_off((2, 12, [2, 3, 3]), [[]] * 12), (4, 1))
        self.assertEqual(first_off((2, 12, [2, 3, 3]), [[0]] * 3 + [[]] * 9), (2, 0))
        self.assertEqual(first_off((3, 12, [2, 3, 3]), [[0, 1, 2]] * 2), (2, 0))
        self.assertEqual(first_off((3, 12, [3, 2, 3]), [[1, 2], [1, 2]]), (2, 1))


class WrongLongPlans(unittest.TestCase):
    functions = [
        (counts_of, []), (lag_numbers, []), (first_off, []), (is_even, []), (extreme_lags, []), (rests_of, []),
        (far_count, [0, 0]), (far_tick, [0]),
    ]

    def test_wrong_ticks_anywhere(self):
        for processors, good in [(1, [0]), (1, []), (3, [0, 2, 4])]:
            load = (processors, 1000, [100] * 6)
            for at in [0, 1, 500, 998, 999]:
                for wrong in [None, True, 0, "0", (), (0,), {}, [6], [-1], [True], [False], [None], ["0"], [[0]],
                              [0, 0], [1, 0], [0, 1, 2, 3], [0, True], [10 ** 40]]:
                    plan = [good] * at + [wrong] + [good, None] * 500
                    plan = plan[:1000]
                    self.assertIs(is_plan(load, plan), False)
                    for function, more in self.functions:
                        with self.subTest(function=function.__name__, processors=processors, at=at, wrong=wrong):
                            told = outcome(function, load, plan, *more)
                            self.assertEqual(told, [errors.InvalidPlan, {"index": at}])

    def test_a_wrong_tick_that_equals_a_right_one(self):
        for load, right, wrong in [((1, 9, [1, 1]), [1], [True]), ((2, 9, [1, 1]), [0, 1], [False, True])]:
            plan = [list(right) for _ in range(9)]
            plan[7] = wrong
            for function, more in self.functions:
                self.assertEqual(outcome(function, load, plan, *more), [errors.InvalidPlan, {"index": 7}])
            self.assertIs(is_plan(load, plan), False)


def steps(function, *values):
    """Return how many functions and comprehensions a call runs."""
    told = []
    sys.setprofile(lambda frame, event, more: told.append(event) if event == "call" else None)
    try:
        function(*values)
    except errors.SliceError:
        pass
    finally:
        sys.setprofile(None)
    return len(told)


class FewSteps(unittest.TestCase):
    def test_no_call_for_each_tick(self):
        load = (1, 1000, [300, 250, 200, 150, 99, 1])
        plan = [[process] for process, share in enumerate(load[2]) for _ in range(share)]
        straight = (1, 1000, [1000])
        for given, ticks in [(load, plan), (straight, [[0]] * 1000), (load, plan[:999] + [[6]]), (load, [[0], None])]:
            for function, more in [*WrongLongPlans.functions, (is_plan, [])]:
                with self.subTest(function=function.__name__):
                    self.assertLess(steps(function, given, ticks, *more), 60)
