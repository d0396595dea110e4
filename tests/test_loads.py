"""Point 14, with the definitions of points 4 to 7."""

import unittest
from fractions import Fraction
from itertools import product
from math import ceil, floor

from evenslices.loads import due_counts, is_full, is_load, rest_load, slices_at, window_of, windows_within
from tests.helpers import BIG, outcome
from evenslices import errors

LOADS = [
    (1, 6, [3, 2, 1]), (1, 10, [4, 5, 1]), (2, 3, [2, 2, 2]), (1, 8, [3, 3, 1, 1]), (1, 1, [1]), (3, 1, [1, 1]),
    (1, 7, [7]), (2, 7, [7, 5, 2]), (3, 11, [11, 10, 6, 1, 1]), (1, 13, [5]), (12, 5, [5] * 12), (2, 9, [8, 7]),
]


def plain_window(load, process, number):
    """Return the window as point 7 tells it, in fractions."""
    share = load[2][process]
    return floor(Fraction(number * load[1], share)), ceil(Fraction((number + 1) * load[1], share)) - 1


class IsLoad(unittest.TestCase):
    def test_loads(self):
        for load in LOADS:
            with self.subTest(load=load):
                self.assertIs(is_load(load), True)

    def test_limits(self):
        for load in [(12, 1, [1]), (12, 1, [1] * 12), (1, BIG, [BIG]), (1, BIG, [1] * 12), (12, BIG, [BIG] * 12)]:
            with self.subTest(load=load):
                self.assertIs(is_load(load), True)

    def test_all_small_loads(self):
        for processors, period, one, other in product(range(4), range(4), range(5), range(5)):
            load = (processors, period, [one, other])
            wanted = processors > 0 and period > 0 and 0 < one <= period and 0 < other <= period
            with self.subTest(load=load):
                self.assertIs(is_load(load), wanted and one + other <= processors * period)

    def test_a_load_in_a_list_is_no_load(self):
        self.assertIs(is_load([(1, 6, [1])]), False)


class IsFull(unittest.TestCase):
    def test_full(self):
        for load in [(1, 6, [3, 2, 1]), (2, 3, [2, 2, 2]), (1, 1, [1]), (12, 5, [5] * 12), (2, BIG, [BIG, 1, BIG - 1])]:
            with self.subTest(load=load):
                self.assertIs(is_full(load), True)

    def test_not_full(self):
        for load in [(1, 6, [3, 2]), (2, 6, [3, 2, 1]), (2, 1, [1]), (1, BIG, [BIG - 1]), (12, BIG, [1])]:
            with self.subTest(load=load):
                self.assertIs(is_full(load), False)


class DueCounts(unittest.TestCase):
    def test_against_fractions(self):
        for load in LOADS:
            for process, share in enumerate(load[2]):
                for moment in range(3 * load[1] + 2):
                    due = Fraction(share * moment, load[1])
                    with self.subTest(load=load, process=process, moment=moment):
                        self.assertEqual(due_counts(load, process, moment), (floor(due), ceil(due)))

    def test_far(self):
        self.assertEqual(due_counts((1, BIG, [BIG]), 0, BIG), (BIG, BIG))
        self.assertEqual(due_counts((1, BIG, [BIG - 1]), 0, BIG), (BIG - 1, BIG - 1))
        self.assertEqual(due_counts((1, BIG, [1]), 0, BIG - 1), (0, 1))
        self.assertEqual(due_counts((1, 3, [1, 2]), 1, 10 ** 29), (6 * (10 ** 29 // 9), 6 * (10 ** 29 // 9) + 1))

    def test_kind(self):
        self.assertIs(type(due_counts((1, 6, [3]), 0, 1)), tuple)


class WindowOf(unittest.TestCase):
    def test_against_fractions(self):
        for load in LOADS:
            for process, share in enumerate(load[2]):
                for number in range(3 * share + 2):
                    with self.subTest(load=load, process=process, number=number):
                        self.assertEqual(window_of(load, process, number), plain_window(load, process, number))

    def test_windows_side_by_side_have_one_tick_in_common_or_none(self):
        for load in LOADS:
            for process, share in enumerate(load[2]):
                for number in range(2 * share):
                    last = window_of(load, process, number)[1]
                    self.assertIn(window_of(load, process, number + 1)[0], [last, last + 1])

    def test_far(self):
        self.assertEqual(window_of((1, BIG, [BIG]), 0, BIG), (BIG, BIG))
        self.assertEqual(window_of((1, BIG, [1]), 0, BIG), (BIG * BIG, BIG * BIG + BIG - 1))
        self.assertEqual(window_of((1, BIG, [2]), 0, 0), (0, BIG // 2))
        self.assertEqual(window_of((1, BIG, [2]), 0, 1), (BIG // 2, BIG - 1))
        self.assertEqual(window_of((12, 1, [1]), 0, BIG), (BIG, BIG))

    def test_kind(self):
        self.assertIs(type(window_of((1, 6, [3]), 0, 1)), tuple)


class SlicesAt(unittest.TestCase):
    def test_against_the_windows(self):
        for load in LOADS:
            for process, share in enumerate(load[2]):
                windows = [plain_window(load, process, number) for number in range(4 * share)]
                for tick in range(3 * load[1]):
                    wanted = [number for number, (first, last) in enumerate(windows) if first <= tick <= last]
                    with self.subTest(load=load, process=process, tick=tick):
                        self.assertEqual(slices_at(load, process, tick), wanted)
                        self.assertIn(len(wanted), [1, 2])

    def test_far(self):
        self.assertEqual(slices_at((1, BIG, [BIG]), 0, BIG), [BIG])
        self.assertEqual(slices_at((1, BIG, [1]), 0, BIG), [1])
        self.assertEqual(slices_at((1, BIG, [1]), 0, BIG - 1), [0])
        self.assertEqual(slices_at((1, BIG, [2]), 0, BIG // 2), [0, 1])
        self.assertEqual(slices_at((1, 10, [4, 5, 1]), 0, 10 ** 29 + 2), [4 * 10 ** 28, 4 * 10 ** 28 + 1])

    def test_there_and_back(self):
        load = (3, BIG, [BIG // 7, BIG - 1, BIG // 2 + 1, 10 ** 15 + 3])
        for process in range(4):
            for number in [0, 1, 10 ** 15, BIG - 1, BIG]:
                for tick in window_of(load, process, number):
                    with self.subTest(process=process, number=number, tick=tick):
                        self.assertIn(number, slices_at(load, process, tick))


class WindowsWithin(unittest.TestCase):
    def test_against_the_windows(self):
        for load in LOADS:
            end_of_all = 2 * load[1] + 2
            for process, share in enumerate(load[2]):
                windows = [plain_window(load, process, number) for number in range(3 * share + 3)]
                for begin, end in product(range(end_of_all + 1), repeat=2):
                    wanted = len([1 for first, last in windows if begin <= first and last < end])
                    with self.subTest(load=load, process=process, begin=begin, end=end):
                        self.assertEqual(windows_within(load, process, begin, end), wanted)

    def test_end_not_greater_than_begin(self):
        for share in [1, 5, 6]:
            for begin, end in [(0, 0), (6, 6), (6, 5), (12, 0), (BIG, 0), (BIG, BIG)]:
                with self.subTest(share=share, begin=begin, end=end):
                    self.assertEqual(windows_within((1, 6, [share]), 0, begin, end), 0)

    def test_far(self):
        self.assertEqual(windows_within((1, BIG, [BIG]), 0, 0, BIG), BIG)
        self.assertEqual(windows_within((1, BIG, [BIG - 1]), 0, 0, BIG), BIG - 1)
        self.assertEqual(windows_within((1, BIG, [BIG - 1]), 0, 1, BIG - 1), BIG - 3)
        self.assertEqual(windows_within((1, 3, [2]), 0, BIG - 3, BIG), 2)


class RestLoad(unittest.TestCase):
    def test_rests(self):
        cases = [
            ((1, 6, [3, 2, 1]), (2, 6, [3, 4, 5])),
            ((2, 3, [2, 2, 2]), (1, 3, [1, 1, 1])),
            ((1, 2, [1, 1]), (1, 2, [1, 1])),
            ((1, 12, [1] * 12), (11, 12, [11] * 12)),
            ((11, 12, [11] * 12), (1, 12, [1] * 12)),
            ((2, BIG, [BIG - 1, BIG - 1, 2]), (1, BIG, [1, 1, BIG - 2])),
        ]
        for load, rest in cases:
            with self.subTest(load=load):
                self.assertEqual(rest_load(load), rest)
                self.assertEqual([is_load(rest_load(load)), is_full(rest)], [True, True])
                self.assertEqual(rest_load(rest), load)

    def test_not_full(self):
        for load in [(1, 6, [3, 2]), (2, 6, [3, 2, 1]), (1, BIG, [1])]:
            with self.subTest(load=load):
                self.assertEqual(outcome(rest_load, load), [errors.NotFull, {}])

    def test_no_rest(self):
        for load in [(1, 6, [6]), (1, 1, [1]), (2, 6, [6, 3, 3]), (2, 6, [3, 3, 6]), (2, BIG, [BIG, BIG])]:
            with self.subTest(load=load):
                self.assertEqual(outcome(rest_load, load), [errors.NoRest, {}])
