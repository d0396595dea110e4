"""Points 24 and 25, with points 6 to 9."""

import unittest
from math import gcd
from random import Random

from evenslices import errors
from evenslices.counting import (
    count_plans, count_states, count_two, count_with, least_pairs, least_plan, most_pairs, nth_plan, plan_number,
    window_lengths,
)
from evenslices.groups import first_breach
from evenslices.loads import window_of
from evenslices.states import states_at
from tests.helpers import BIG, NO_NUMBERS, drawn_groups, drawn_load, is_round, outcome, round_plans, small_loads

LOADS = [
    *small_loads(1, 4, 3), *small_loads(2, 3, 3), (1, 6, [3, 2, 1]), (2, 3, [2, 2, 2]), (1, 5, [2, 3]), (1, 6, [2, 2]),
    (1, 4, [1, 1, 1, 1]), (1, 4, [2, 2]), (1, 5, [1, 1, 1, 1, 1]), (2, 4, [2, 2, 2, 2]), (2, 5, [3, 4, 2]),
    (3, 4, [3, 3, 3, 3]), (3, 4, [4, 3, 2]), (12, 3, [2, 2, 1]), (5, 3, [1, 2, 3]), (1, 5, [2, 1]), (1, 6, [1]),
    (1, 1, [1]), (2, 4, [4, 1, 1]), (3, 1, [1, 1]), (1, 6, [1, 1, 1, 1, 1, 1]), (2, 5, [1, 1]),
]

# loads at the limits of the point
LARGE = [
    (6, 24, [7, 11, 13, 17, 19, 23]), (3, 24, [12, 12, 12, 12, 12, 12]), (1, 24, [4, 4, 4, 4, 4, 4]), (1, 24, [24]),
    (2, 23, [7, 8, 9, 10, 11, 1]), (12, 24, [23, 23, 23, 23, 23, 23]), (1, 24, [1, 2, 3, 4, 5, 6]), (1, 24, [1]),
]


def counts_at(load, plan, moment):
    return tuple(sum(process in row for row in plan[:moment]) for process in range(len(load[2])))


def has_slice(plan, process, number, tick):
    """Return whether the slice with a number of a process is at a tick of a plan."""
    return process in plan[tick] and sum(process in row for row in plan[:tick]) == number


class AgainstAllPlans(unittest.TestCase):
    def test_number_and_sequence(self):
        for load in LOADS:
            with self.subTest(load=load):
                plans = sorted(round_plans(load))
                self.assertEqual(count_plans(load), len(plans))
                self.assertEqual(least_plan(load), plans[0])
                self.assertEqual([nth_plan(load, number) for number in range(len(plans))], plans)
                self.assertEqual([plan_number(load, plan) for plan in plans], list(range(len(plans))))
                for number in [len(plans), len(plans) + 1, BIG]:
                    self.assertEqual(outcome(nth_plan, load, number), [errors.InvalidNumber, {}])

    def test_plans_with_a_slice_at_a_tick(self):
        for load in LOADS:
            plans = round_plans(load)
            _, period, shares = load
            for process, share in enumerate(shares):
                for number in range(share):
                    with self.subTest(load=load, process=process, number=number):
                        told = [count_with(load, process, number, tick) for tick in range(period)]
                        self.assertEqual(told, [
                            sum(has_slice(plan, process, number, tick) for plan in plans) for tick in range(period)
                        ])
                        first, last = window_of(load, process, number)
                        self.assertEqual(
                            [tick for tick in range(period) if told[tick] > 0], list(range(first, last + 1))
                        )
                        for tick in [period, period + first, 7 * period + last, BIG]:
                            self.assertEqual(count_with(load, process, number, tick), 0)

    def test_states(self):
        for load in LOADS:
            plans = round_plans(load)
            period = load[1]
            for moment in range(period + 1):
                with self.subTest(load=load, moment=moment):
                    many = len({counts_at(load, plan, moment) for plan in plans})
                    for rounds in [0, 1, 5, 10 ** 20]:
                        self.assertEqual(count_states(load, moment + rounds * period), many)

    def test_states_on_one_processor_are_those_of_point_21(self):
        for load in [load for load in [*LOADS, *LARGE] if load[0] == 1]:
            for moment in [*range(load[1] + 2), 10 ** 20]:
                with self.subTest(load=load, moment=moment):
                    self.assertEqual(count_states(load, moment), len(states_at(load, moment)))

    def test_dead_ends_are_no_states(self):
        # as many counts are even at moment 2, but by moment 3 they are doomed
        load = (1, 8, [3, 3, 1, 1])
        self.assertNotIn([0, 0, 1, 1], states_at(load, 2))
        self.assertEqual(count_states(load, 2), len(states_at(load, 2)))


class Pairs(unittest.TestCase):
    def check(self, load, plans, groups, pairs):
        with self.subTest(load=load, groups=groups, pairs=pairs):
            numbers = [
                sum(process in plan[tick] for tick, process in pairs) for plan in plans
                if first_breach(load, groups, plan) is None
            ]
            self.assertEqual([least_pairs(load, groups, pairs), most_pairs(load, groups, pairs)],
                             [min(numbers), max(numbers)])

    def test_against_all_plans(self):
        draw = Random(24)
        for load in LOADS:
            plans = round_plans(load)
            many = len(load[2])
            every = [(tick, process) for tick in range(load[1]) for process in range(many)]
            drawn = [sorted(draw.sample(every, draw.randint(0, len(every)))) for _ in range(3)]
            members = list(range(many))
            nested = [members[:size] for size in range(many, 0, -1)]
            for groups in [[], [members], [members[:1]], [members[-2:]], nested, *[drawn_groups(draw, many)] * 2]:
                for pairs in [[], every, *drawn]:
                    self.check(load, plans, groups, pairs)

    def test_more_groups_than_sets_to_keep(self):
        load = (2, 5, [3, 3, 2, 2])
        groups = [[0, 1], [2, 3], [0], [1], [2], [3], [0, 1, 2, 3]]
        self.check(load, round_plans(load), groups, [(0, 0), (1, 1), (2, 1)])

    def test_due_of_pairs(self):
        draw = Random(9)
        for _ in range(60):
            load = drawn_load(draw, 4, 16, 6)
            every = [(tick, process) for tick in range(load[1]) for process in range(len(load[2]))]
            pairs = sorted(draw.sample(every, draw.randint(0, len(every))))
            groups = drawn_groups(draw, len(load[2]))
            with self.subTest(load=load, groups=groups, pairs=pairs):
                due = sum(load[2][process] for _, process in pairs)
                self.assertLessEqual(-(-due // load[1]), most_pairs(load, groups, pairs))
                self.assertLessEqual(least_pairs(load, groups, pairs), due // load[1])
                others = [pair for pair in every if pair not in pairs]
                if sum(load[2]) == load[0] * load[1]:
                    # what the pairs do not have the others have
                    everything = sum(load[2])
                    self.assertEqual(
                        most_pairs(load, groups, pairs), everything - least_pairs(load, groups, others)
                    )


class Large(unittest.TestCase):
    def test_there_and_back(self):
        draw = Random(25)
        for load in LARGE:
            many = count_plans(load)
            for number in sorted({0, many - 1, *[draw.randrange(many) for _ in range(5)]}):
                with self.subTest(load=load, number=number):
                    plan = nth_plan(load, number)
                    self.assertTrue(is_round(load, plan))
                    self.assertEqual(plan_number(load, plan), number)
            self.assertEqual(least_plan(load), nth_plan(load, 0))
            self.assertEqual(outcome(nth_plan, load, many), [errors.InvalidNumber, {}])

    def test_sums_of_plans_with_a_slice(self):
        for load in LARGE:
            many = count_plans(load)
            for process in [0, len(load[2]) - 1]:
                for number in {0, load[2][process] - 1}:
                    with self.subTest(load=load, process=process, number=number):
                        told = [count_with(load, process, number, tick) for tick in range(load[1])]
                        self.assertEqual(sum(told), many)

    def test_known_numbers(self):
        # without shares that meet, each process takes its turn anywhere in its part of the round
        self.assertEqual(count_plans((1, 6, [1] * 6)), 720)
        self.assertEqual(count_plans((1, 24, [4] * 6)), 720 ** 4)
        self.assertEqual(count_plans((6, 24, [12] * 6)), 2 ** 72)
        self.assertEqual(count_plans((2, 24, [24, 12, 12])), 2 ** 12)
        self.assertEqual(count_plans((1, 24, [1])), 24)


class PlanNumber(unittest.TestCase):
    def test_not_round(self):
        three = (1, 6, [3, 2, 1])
        plan = [[0], [1], [0], [1], [0], [2]]
        for other in [[], plan[:5], plan + [[0]], [[0], [0], [1], [1], [0], [2]], plan[:5] + [[]], [[]] * 6]:
            with self.subTest(plan=other):
                self.assertEqual(outcome(plan_number, three, other), [errors.NotRound, {}])

    def test_sequence_is_that_of_lists(self):
        load = (12, 2, [1, 1])
        wanted = [[[], [0, 1]], [[0], [1]], [[0, 1], []], [[1], [0]]]
        self.assertEqual([nth_plan(load, number) for number in range(4)], wanted)
        self.assertEqual([plan_number(load, plan) for plan in wanted], [0, 1, 2, 3])


def count_along(part, period):
    """Return the number of round plans of two processes that share one processor, from lag number to lag number."""
    ways = {0: 1}
    for _ in range(period):
        longer = {}
        for lag, number in ways.items():
            for after in [lag + part, lag + part - period]:
                if -period < after < period:
                    longer[after] = longer.get(after, 0) + number
        ways = longer
    return ways[0]


class Two(unittest.TestCase):
    def test_window_lengths(self):
        for period in [*range(2, 20), 100, 101]:
            for part in range(1, period):
                with self.subTest(part=part, period=period):
                    load = (1, period, [part, period - part])
                    windows = [window_of(load, 0, number) for number in range(part)]
                    self.assertEqual(window_lengths(part, period), [last - first + 1 for first, last in windows])

    def test_against_count_plans(self):
        for period in range(2, 25):
            for part in range(1, period):
                with self.subTest(part=part, period=period):
                    self.assertEqual(count_two(part, period), count_plans((1, period, [part, period - part])))

    def test_against_going_along(self):
        cases = [(part, period) for period in range(25, 60) for part in range(1, period)]
        cases += [(1, 2000), (1999, 2000), (999, 2000), (1000, 2000), (1001, 2000), (997, 1999), (618, 1000)]
        cases += [(750, 2000)]
        for part, period in cases:
            with self.subTest(part=part, period=period):
                self.assertEqual(count_two(part, period), count_along(part, period))

    def test_common_divisors(self):
        for part, period in [(2, 4), (1000, 2000), (500, 2000), (666, 1998), (1500, 2000), (1332, 1998)]:
            divisor = gcd(part, period)
            with self.subTest(part=part, period=period):
                self.assertEqual(count_two(part, period), count_two(part // divisor, period // divisor) ** divisor)

    def test_wrong_numbers(self):
        for function in [count_two, window_lengths]:
            for value in [*NO_NUMBERS, 0, 8, 9, BIG]:
                with self.subTest(function=function.__name__, part=value):
                    self.assertEqual(outcome(function, value, 8), [errors.InvalidNumber, {}])
                    self.assertEqual(outcome(function, part=value, period=8), [errors.InvalidNumber, {}])
            for value in [*NO_NUMBERS, 0, 1, 2001, BIG]:
                with self.subTest(function=function.__name__, period=value):
                    self.assertEqual(outcome(function, 1, value), [errors.InvalidNumber, {}])
                    self.assertEqual(outcome(function, None, value), [errors.InvalidNumber, {}])
