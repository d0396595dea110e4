"""Points 26 and 27."""

import unittest
from fractions import Fraction
from itertools import product
from random import Random

from evenslices import errors
from evenslices.changes import can_change, failing_moment, newcomer_share, plan_on
from evenslices.states import doomed_by
from tests.helpers import BIG, NO_LISTS, NO_NUMBERS, choices, outcome, plain_failing

FUNCTIONS = [failing_moment, can_change, newcomer_share]


def lags_at(base, lags, period, shares, ticks, counts):
    return [
        Fraction(lag, base) + Fraction(share * ticks, period) - count
        for lag, share, count in zip(lags, shares, counts)
    ]


def tried_failing(base, lags, period, shares):
    """Return the first number of ticks, up to two periods, that no list of slices survives, or None."""
    many = len(lags)
    survivors = {(0,) * many}
    for ticks in range(1, 2 * period + 1):
        survivors = {
            told for counts in survivors for runs in [None, *range(many)]
            for told in [tuple(count + (process == runs) for process, count in enumerate(counts))]
            if all(-1 < lag < 1 for lag in lags_at(base, lags, period, shares, ticks, told))
        }
        if not survivors:
            return ticks
    return None


def drawn_change(draw, base, period, many):
    """Return a drawn change with at most this base, this period and so many processes, some shares of it 0."""
    base, period, size = draw.randint(1, base), draw.randint(1, period), draw.randint(many // 2, many)
    total = draw.choice([period, period, draw.randint(0, period)])
    cuts = sorted(draw.randint(0, total) for _ in range(size - 1))
    shares = [after - ahead for ahead, after in zip([0, *cuts], [*cuts, total])]
    width, depth = draw.choice([base // 2, base - 1, base - 1]), draw.choice([0, 0, base - 1])
    lags = [draw.randint(-depth, width) for _ in range(size)]
    if draw.random() < 0.5:
        # the failures come late if the processes that are behind have small shares
        order = sorted(range(size), key=lambda process: shares[process])
        lags = [lag for _, lag in sorted(zip(order, sorted(lags, reverse=True)))]
    return base, lags, period, shares


class FailingMoment(unittest.TestCase):
    def check(self, base, lags, period, shares):
        with self.subTest(base=base, lags=lags, period=period, shares=shares):
            told = failing_moment(base, lags, period, shares)
            self.assertEqual(told, plain_failing(base, lags, period, shares))
            self.assertIs(can_change(base, lags, period, shares), told is None)
            return told

    def test_all_small_ones(self):
        for base, period in product([1, 2, 3], [1, 2, 3, 4]):
            for many in [1, 2]:
                for lags in product(range(1 - base, base), repeat=many):
                    for shares in product(range(period + 1), repeat=many):
                        if sum(shares) <= period:
                            told = self.check(base, list(lags), period, list(shares))
                            self.assertEqual(told, tried_failing(base, lags, period, shares))

    def test_drawn_ones_against_trying_out(self):
        draw = Random(26)
        found = {}
        for _ in range(400):
            change = drawn_change(draw, 7, 7, 4)
            told = self.check(*change)
            self.assertEqual(told, tried_failing(*change), change)
            found[told] = True
        self.assertGreater(len(found), 3)

    def test_drawn_ones_against_the_sums(self):
        draw = Random(27)
        found = {}
        for base, period, many in [(9, 9, 12), (BIG, 60, 12), (60, 60, 6), (1, 60, 12), (BIG, 1, 12)]:
            for _ in range(150):
                found[self.check(*drawn_change(draw, base, period, many))] = True
        self.assertGreater(len(found), 8)
        self.assertIn(None, found)

    def test_all_lags_at_0_can_go_on(self):
        for shares in [[1], [0], [3, 3, 2], [0, 0], [4, 4], [1] * 8]:
            self.assertIs(can_change(5, [0] * len(shares), 8, shares), True)

    def test_it_is_the_doom_of_counts(self):
        load = (1, 8, [3, 3, 1, 1])
        for moment, counts in [(2, [0, 0, 1, 1]), (3, [1, 1, 0, 0]), (1, [0, 0, 0, 1]), (5, [1, 1, 1, 1])]:
            lags = [share * moment - 8 * count for share, count in zip(load[2], counts)]
            told = failing_moment(8, lags, 8, load[2])
            self.assertEqual(None if told is None else moment + told, doomed_by(load, moment, counts))

    def test_late_failures(self):
        draw = Random(2600)
        found = {}
        for _ in range(300):
            # many small shares whose slices all end late, and one great share
            many = draw.randint(3, 12)
            period = draw.randint(100, 400)
            shares = [draw.randint(1, 5) for _ in range(many - 1)]
            shares.append(period - sum(shares))
            lags = [draw.randint(0, 50) for _ in range(many - 1)]
            lags.append(max(-99, -sum(lags)))
            found[self.check(100, lags, period, shares)] = True
        self.assertGreater(max(ticks for ticks in found if ticks is not None), 40)

    def test_limits(self):
        self.assertIsNone(self.check(BIG, [0] * 12, 3000, [250] * 12))
        self.assertEqual(self.check(BIG, [BIG - 1] * 12, 3000, [250] * 12), 1)
        self.assertIsNone(self.check(BIG, [1 - BIG] * 11 + [BIG - 1], 3000, [0] * 11 + [3000]))
        self.assertIsNone(self.check(BIG, [1 - BIG] * 12, 3000, [250] * 12))


class Newcomer(unittest.TestCase):
    def check(self, base, lags, period, shares):
        with self.subTest(base=base, lags=lags, period=period, shares=shares):
            fitting = [
                share for share in range(period - sum(shares) + 1)
                if plain_failing(base, [*lags, 0], period, [*shares, share]) is None
            ]
            told = newcomer_share(base, lags, period, shares)
            self.assertEqual(told, max(fitting, default=None))
            return told

    def test_against_trying_each_share(self):
        draw = Random(270)
        found = {}
        for base, period, many in [(5, 8, 3), (9, 12, 12), (BIG, 20, 5), (1, 20, 4), (4, 20, 12)]:
            for _ in range(120):
                found[self.check(*drawn_change(draw, base, period, many))] = True
        self.assertGreater(len(found), 8)
        self.assertIn(None, found)
        self.assertIn(0, found)

    def test_a_thirteenth_process(self):
        self.assertEqual(self.check(8, [0] * 12, 30, [1] * 12), 18)
        self.assertIsNone(self.check(8, [7] * 4 + [-7] * 8, 3, [1] * 3 + [0] * 9))
        self.assertEqual(self.check(8, [7] * 4 + [-7] * 8, 30, [1] * 4 + [0] * 8), 7)

    def test_less_than_the_rest(self):
        self.assertEqual(self.check(8, [0, 0], 10, [3, 2]), 5)
        self.assertEqual(self.check(8, [-7, -7], 10, [3, 2]), 5)
        self.assertEqual(self.check(8, [7, 6], 10, [4, 1]), 3)
        self.assertIsNone(self.check(8, [7, 7], 10, [3, 2]))
        # by tick 2 nothing is left, and a newcomer with half of the period would need a slice just there
        self.assertEqual(self.check(10, [6, 6], 4, [1, 1]), 1)

    def test_limits(self):
        self.assertEqual(newcomer_share(BIG, [0] * 12, 3000, [0] * 12), 3000)
        self.assertEqual(newcomer_share(BIG, [0] * 12, 3000, [250] * 12), 0)
        self.assertIsNone(newcomer_share(BIG, [BIG - 1] * 12, 3000, [250] * 12))


class PlanOn(unittest.TestCase):
    def judge(self, base, lags, period, shares, many):
        plan = plan_on(base, lags, period, shares, many)
        self.assertEqual(len(plan), many)
        counts = [0] * len(lags)
        for ticks, row in enumerate(plan, 1):
            self.assertIn(row, [[], *[[process] for process in range(len(lags))]])
            for process in row:
                counts[process] += 1
            told = lags_at(base, lags, period, shares, ticks, counts)
            self.assertTrue(all(-1 < lag < 1 for lag in told), (ticks, told))
        whole = base * period
        behind = [int(lag * whole) for lag in lags_at(base, lags, period, shares, many, counts)]
        self.assertIsNone(plain_failing(whole, behind, period, shares))

    def test_judged_tick_by_tick(self):
        draw = Random(2700)
        judged = stuck = 0
        for base, period, many in [(5, 8, 3), (9, 12, 12), (BIG, 20, 5), (1, 7, 4), (4, 30, 12), (BIG, 300, 12)]:
            for _ in range(40):
                change = drawn_change(draw, base, period, many)
                with self.subTest(change=change):
                    if plain_failing(*change) is None:
                        judged += 1
                        for ticks in [0, 1, change[2], draw.randint(2, 60)]:
                            self.judge(*change, min(300, ticks))
                    else:
                        stuck += 1
                        for ticks in [0, 1, 300]:
                            self.assertEqual(outcome(plan_on, *change, ticks), [errors.Impossible, {}])
        self.assertGreater(min(judged, stuck), 20)

    def test_behind_some_rounds(self):
        self.judge(7, [3, -3, 0], 6, [3, 2, 1], 300)
        self.judge(BIG, [BIG - 1, 1 - BIG, 0], 7, [3, 3, 1], 300)
        self.judge(3, [2, -2], 5, [0, 0], 300)
        self.judge(BIG, [0] * 12, 3000, [250] * 12, 300)

    def test_shares_of_0(self):
        self.assertEqual(plan_on(2, [1, -1], 3, [3, 0], 2), [[0], [0]])
        self.judge(2, [1, 1, -1], 5, [0, 5, 0], 20)

    def test_many(self):
        for value in [*NO_NUMBERS, 301, BIG]:
            with self.subTest(many=value):
                self.assertEqual(outcome(plan_on, 1, [0], 1, [1], value), [errors.InvalidNumber, {}])
                self.assertEqual(outcome(plan_on, 2, [1, 1], 2, [1, 1], value), [errors.InvalidNumber, {}])


# wrong values for the parameters of a change (8, [1, -1, 0], 10, [5, 3, 2]), with the errors
WRONG_BASES = [(value, [errors.InvalidNumber, {}]) for value in [*NO_NUMBERS, 0, BIG + 1, 10 ** 40]]
WRONG_LAGS = [
    *[(value, None) for value in [*NO_LISTS, (1, -1, 0), [], [0] * 13, [99] * 13]],
    *[([value, 99, 0], 0) for value in [None, True, False, "1", [1], (1,), {}, 8, -8, 99, BIG, -BIG]],
    ([7, -8, 8], 1), ([7, -7, 8], 2), ([0] * 11 + [8], 11),
]
WRONG_PERIODS = [(value, [errors.InvalidNumber, {}]) for value in [*NO_NUMBERS, 0, 3001, BIG]]
WRONG_SHARES = [
    *[(value, None) for value in [*NO_LISTS, (5, 3, 2), [], [5, 3], [5, 3, 1, 1], [99] * 4]],
    *[([value, 99, 0], 0) for value in [None, True, False, "1", [1], (1,), {}, -1, 11, BIG]],
    ([5, 6, 0], 1), ([5, 5, 1], 2), ([10, 1, -1], 1), ([0, 0, 11], 2), ([11, 0, 0], 0), ([10, 0, True], 2),
]

WRONG = {
    "base": WRONG_BASES,
    "lags": [(value, [errors.InvalidLags, {"index": index}]) for value, index in WRONG_LAGS],
    "period": WRONG_PERIODS,
    "shares": [(value, [errors.InvalidShares, {"index": index}]) for value, index in WRONG_SHARES],
}
RIGHT = {"base": 8, "lags": [1, -1, 0], "period": 10, "shares": [5, 3, 2]}


class Parameters(unittest.TestCase):
    def test_each_one(self):
        for name, cases in WRONG.items():
            for value, wanted in cases:
                values = {**RIGHT, name: value}
                with self.subTest(name=name, value=value):
                    for function in FUNCTIONS:
                        self.assertEqual(outcome(function, **values), wanted)
                        self.assertEqual(outcome(function, *values.values()), wanted)
                    self.assertEqual(outcome(plan_on, **values, many=3), wanted)
                    self.assertEqual(outcome(plan_on, **values, many=-3), wanted)

    def test_the_first_one_counts(self):
        for names in choices(list(WRONG)):
            values = {**RIGHT, **{name: WRONG[name][-1][0] for name in names}}
            with self.subTest(names=names):
                for function in FUNCTIONS:
                    self.assertEqual(outcome(function, **values), WRONG[names[0]][-1][1])
                self.assertEqual(outcome(plan_on, **values, many=None), WRONG[names[0]][-1][1])

    def test_right_edges(self):
        self.assertIsNone(failing_moment(1, [0] * 12, 3000, [3000] + [0] * 11))
        self.assertIsNone(failing_moment(BIG, [1 - BIG], 1, [1]))
        self.assertEqual(failing_moment(8, [7, 7, 7], 10, [5, 3, 2]), plain_failing(8, [7, 7, 7], 10, [5, 3, 2]))
