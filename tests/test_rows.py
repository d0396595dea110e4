"""Points 22 and 23, with the definition of point 12."""

import unittest
from itertools import product
from random import Random

from evenslices import errors
from evenslices.loads import window_of
from evenslices.rows import early_plan, early_tick, filled, full_stretch, straight_plan, straight_tick
from tests.helpers import BIG, NO_LISTS, NO_NUMBERS, drawn_load, due_ends, is_round, outcome, round_plans, small_loads

FIVE = (1, 10, [4, 5, 1])
DULL = (1, 8, [3, 3, 1, 1])
NUMBERS = [0, 1, 2, 3, 7, 10 ** 6, 10 ** 20 + 1, BIG]
LONG = [
    (1, 200, [90, 50, 20, 10, 9, 8, 7, 2, 1, 1, 1, 1]), (1, 200, [199, 1]), (1, 200, [1] * 12), (1, 199, [100, 99]),
    (1, 200, [67, 66, 67]), (1, 200, [200]), (1, 197, [30, 31, 32, 33, 34, 35, 1]),
]


def plain_windows(load, process):
    """Return the windows of all slices of one round, as point 7 tells them."""
    _, period, shares = load
    share = shares[process]
    return [
        (due_ends(period, share, number)[0], due_ends(period, share, number + 1)[1] - 1) for number in range(share)
    ]


def all_rows(load, process):
    """Return all ascending lists of a tick for each slice, in its window."""
    spans = [range(first, last + 1) for first, last in plain_windows(load, process)]
    return [list(ticks) for ticks in product(*spans) if all(ahead < tick for ahead, tick in zip(ticks, ticks[1:]))]


def plain_stretch(load, process, ticks):
    """Return the stretch with the least begin, and then the least end, that has more slices than ticks, or None."""
    windows = [window for other in range(len(load[2])) if other != process for window in plain_windows(load, other)]
    for begin in range(load[1]):
        for end in range(begin + 1, load[1] + 1):
            own = sum(begin <= tick < end for tick in ticks)
            if own + sum(begin <= first and last < end for first, last in windows) > end - begin:
                return begin, end
    return None


def ticks_in(plan, process):
    return [tick for tick, row in enumerate(plan) if process in row]


def straight_ticks(load, process, shift):
    """Return the ticks of one round at which the count of point 12 grows."""
    _, period, shares = load
    counts = [(shares[process] * moment + shift) // period for moment in range(period + 1)]
    return [tick for tick in range(period) if counts[tick + 1] > counts[tick]]


class Ticks(unittest.TestCase):
    def test_early_tick_is_the_first_of_the_window(self):
        for load in [*small_loads(1, 6, 2), FIVE, DULL, (1, BIG, [BIG // 3, 7, 1]), (1, 10 ** 29, [7])]:
            for process in range(len(load[2])):
                for number in NUMBERS:
                    with self.subTest(load=load, process=process, number=number):
                        wanted = due_ends(load[1], load[2][process], number)[0]
                        self.assertEqual(early_tick(load, process, number), wanted)
                        self.assertEqual(window_of(load, process, number)[0], wanted)

    def test_straight_tick_by_the_counts_around_it(self):
        for load in [*small_loads(1, 6, 2), FIVE, DULL, (1, BIG, [BIG // 3, 7, 1]), (1, 10 ** 29, [7])]:
            _, period, shares = load
            for process, share in enumerate(shares):
                for shift in sorted({0, 1 % period, period // 2, period - 1}):
                    for number in NUMBERS:
                        with self.subTest(load=load, process=process, shift=shift, number=number):
                            tick = straight_tick(load, process, shift, number)
                            counts = [(share * moment + shift) // period for moment in [tick, tick + 1]]
                            self.assertEqual(counts, [number, number + 1])

    def test_all_shifts_of_a_round(self):
        for load in [*small_loads(1, 6, 1), FIVE, DULL]:
            for process, share in enumerate(load[2]):
                for shift in range(load[1]):
                    with self.subTest(load=load, process=process, shift=shift):
                        told = [straight_tick(load, process, shift, number) for number in range(share)]
                        self.assertEqual(told, straight_ticks(load, process, shift))
                        for tick, (first, last) in zip(told, plain_windows(load, process)):
                            self.assertTrue(first <= tick <= last)

    def test_shift_has_a_range(self):
        for shift in [*NO_NUMBERS, 10, 11, BIG, 10 ** 40]:
            with self.subTest(shift=shift):
                self.assertEqual(outcome(straight_tick, FIVE, 0, shift, 0), [errors.InvalidNumber, {}])
                self.assertEqual(outcome(straight_plan, FIVE, 0, shift), [errors.InvalidNumber, {}])
        self.assertEqual(straight_tick(FIVE, 0, 9, 0), 0)
        self.assertEqual(straight_tick((1, 1, [1]), 0, 0, 5), 5)
        self.assertEqual(outcome(straight_tick, (1, 1, [1]), 0, 1, 5), [errors.InvalidNumber, {}])


class Plans(unittest.TestCase):
    def check(self, load, process, plan, ticks):
        self.assertTrue(is_round(load, plan), plan)
        self.assertEqual(ticks_in(plan, process), ticks)

    def test_small_loads(self):
        for load in [*small_loads(1, 5, 3), FIVE, DULL, (1, 6, [3, 2, 1]), (1, 6, [1, 1, 1, 3]), (1, 12, [5, 4, 2])]:
            for process in range(len(load[2])):
                with self.subTest(load=load, process=process):
                    firsts = [first for first, _ in plain_windows(load, process)]
                    self.check(load, process, early_plan(load, process), firsts)
                for shift in range(load[1]):
                    with self.subTest(load=load, process=process, shift=shift):
                        ticks = straight_ticks(load, process, shift)
                        self.check(load, process, straight_plan(load, process, shift), ticks)

    def test_drawn_loads(self):
        draw = Random(22)
        for _ in range(200):
            load = drawn_load(draw, 1, 30, 8)
            process, shift = draw.randrange(len(load[2])), draw.randrange(load[1])
            with self.subTest(load=load, process=process, shift=shift):
                firsts = [first for first, _ in plain_windows(load, process)]
                self.check(load, process, early_plan(load, process), firsts)
                ticks = straight_ticks(load, process, shift)
                self.check(load, process, straight_plan(load, process, shift), ticks)

    def test_long_periods(self):
        for load in LONG:
            for process in [0, len(load[2]) - 1]:
                for shift in [0, 1, load[1] - 1]:
                    with self.subTest(load=load, process=process, shift=shift):
                        firsts = [first for first, _ in plain_windows(load, process)]
                        self.check(load, process, early_plan(load, process), firsts)
                        ticks = straight_ticks(load, process, shift)
                        self.check(load, process, straight_plan(load, process, shift), ticks)


class FilledRows(unittest.TestCase):
    def check(self, load, process, ticks):
        plan, stretch = filled(load, process, ticks), full_stretch(load, process, ticks)
        self.assertEqual(stretch, plain_stretch(load, process, ticks))
        if stretch is None:
            self.assertTrue(is_round(load, plan))
            self.assertEqual(ticks_in(plan, process), ticks)
        else:
            self.assertIsNone(plan)
        return stretch is None

    def test_all_rows_of_small_loads(self):
        told = {True: 0, False: 0}
        loads = [(1, 6, [3, 2, 1]), (1, 7, [3, 3, 1]), (1, 8, [4, 3, 1]), FIVE, (1, 10, [5, 4])]
        for load in [*small_loads(1, 5, 3), *loads]:
            plans = round_plans(load)
            for process in range(len(load[2])):
                possible = {tuple(ticks_in(plan, process)) for plan in plans}
                for ticks in all_rows(load, process):
                    with self.subTest(load=load, process=process, ticks=ticks):
                        good = self.check(load, process, ticks)
                        self.assertEqual(good, tuple(ticks) in possible)
                        told[good] += 1
        self.assertGreater(min(told.values()), 20)

    def test_drawn_rows(self):
        draw = Random(23)
        told = {True: 0, False: 0}
        for _ in range(300):
            half = draw.randint(3, 14)
            shares = draw.choice([[half, half - 1, 1], [half, half - 1], [half - 1, half, 1], [half // 2, half]])
            load = (1, 2 * half, shares)
            process, ticks = draw.randrange(2), []
            for first, last in plain_windows(load, process):
                least = max([first, *[tick + 1 for tick in ticks[-1:]]])
                # most slices are early, as few drawn rows can be filled up
                ticks.append(draw.randint(least, last) if draw.random() < 0.4 or least == last else least)
                if ticks[-1] == last and last > least:
                    ticks[-1] -= 1
            with self.subTest(load=load, process=process, ticks=ticks):
                told[self.check(load, process, ticks)] += 1
        self.assertGreater(min(told.values()), 50)

    def test_long_periods(self):
        for load in LONG:
            process = len(load[2]) // 2
            windows = plain_windows(load, process)
            firsts = [first for first, _ in windows]
            late = [last if number % 3 else first for number, (first, last) in enumerate(windows)]
            late = [tick for tick, after in zip(late, [*late[1:], load[1]]) if tick < after]
            self.assertIs(self.check(load, process, firsts), True)
            if len(late) == len(windows):
                self.check(load, process, late)

    def test_the_least_end_of_the_least_begin(self):
        self.assertEqual(full_stretch(FIVE, 0, [0, 4, 5, 7]), (4, 6))
        self.assertEqual(full_stretch(FIVE, 0, [1, 4, 5, 8]), (4, 6))
        self.assertEqual(full_stretch(DULL, 3, [0]), None)
        # the process takes the last tick of another one's only window
        self.assertEqual(full_stretch((1, 2, [1, 1]), 0, [1]), None)
        self.assertEqual(full_stretch((1, 4, [2, 2]), 0, [0, 2]), None)

    def test_wrong_ticks(self):
        cases = [
            *[(value, None) for value in [*NO_LISTS, (0, 2, 5, 7), [], [0, 2, 5], [0, 2, 5, 7, 9]]],
            *[([0, 2, value, 7], None) for value in [None, True, False, "5", [5], (5,), {}]],
            ([True, 2, 5, 7], None), ([99, 2, 5, None], None), ([False, 2, 5, 7], None),
            *[([value, 2, 5, 7], 0) for value in [-1, 3, 10, BIG, -BIG, 10 ** 5000]],
            *[([0, value, 5, 7], 1) for value in [1, 0, 5, -1]],
            ([2, 2, 5, 7], 1), ([0, 4, 4, 7], 2), ([0, 4, 8, 7], 2), ([0, 2, 7, 7], 3), ([0, 2, 5, 6], 3),
            ([0, 2, 5, 10], 3), ([0, 2, 5, 5], 3), ([3, 1, 0, 99], 0), ([0, 2, 5, 17], 3),
        ]
        for value, index in cases:
            with self.subTest(value=value):
                wanted = [errors.InvalidTicks, {"index": index}]
                self.assertEqual(outcome(filled, FIVE, 0, value), wanted)
                self.assertEqual(outcome(full_stretch, FIVE, 0, value), wanted)
        for ticks in [[2, 4, 7, 9], [0, 2, 5, 7], [2, 3, 7, 8]]:
            self.check(FIVE, 0, ticks)

    def test_arguments_stay_as_they_are(self):
        ticks = [0, 2, 5, 7]
        plan = filled(FIVE, 0, ticks)
        plan[0].append(99)
        plan.append([])
        self.assertEqual([ticks, FIVE], [[0, 2, 5, 7], (1, 10, [4, 5, 1])])
        self.assertTrue(is_round(FIVE, filled(FIVE, 0, ticks)))
