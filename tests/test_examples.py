"""The examples of the document, word for word."""

import unittest

from tests.helpers import run_examples

SHARED = """
>>> three, five, pair = (1, 6, [3, 2, 1]), (1, 10, [4, 5, 1]), (2, 3, [2, 2, 2])
>>> dull = (1, 8, [3, 3, 1, 1])
"""

LOADS = """
>>> from evenslices.loads import due_counts, is_full, is_load, rest_load, slices_at, window_of, windows_within
>>> [is_load(value) for value in [three, (1, 6, [3, 4]), (1, 6, [0, 1]), [1, 6, [1]]]]
[True, False, False, False]
>>> [is_full(five), is_full((1, 6, [3, 2])), due_counts(five, 0, 4), due_counts(three, 0, 4)]
[True, False, (1, 2), (2, 2)]
>>> [[window_of(five, 0, number) for number in range(4)], slices_at(five, 0, 2), slices_at(five, 0, 5), windows_within(five, 1, 4, 6)]
[[(0, 2), (2, 4), (5, 7), (7, 9)], [0, 1], [2], 1]
>>> [window_of(five, 0, 10 ** 18), rest_load(pair)]
[(2500000000000000000, 2500000000000000002), (1, 3, [1, 1, 1])]
"""

PLANS = """
>>> from evenslices.plans import counts_of, extreme_lags, far_count, far_tick, first_off, is_even, lag_numbers, rests_of
>>> plan = [[0], [1], [0], [2], [0], [1]]
>>> [counts_of(three, plan), lag_numbers(three, plan[:4]), extreme_lags(three, plan), is_even(three, plan)]
[[3, 2, 1], [0, 2, -2], (-3, 4), True]
>>> [first_off(three, [[2], [1], [0]]), rests_of(pair, [[0, 1], [0, 2], [1, 2]])]
[(2, 0), [[2], [1], [0]]]
>>> [far_count(three, plan, 1, 10 ** 20), far_tick(three, plan, 10 ** 20)]
[33333333333333333333, [0]]
"""


class Examples(unittest.TestCase):
    def test_examples(self):
        names = {}
        for text in [SHARED, LOADS, PLANS]:
            run_examples(self, names, text)
