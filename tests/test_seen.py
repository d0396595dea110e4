"""Points 30 and 31."""

import unittest
from fractions import Fraction
from itertools import combinations, product
from random import Random

from evenslices import errors
from evenslices.plans import is_even
from evenslices.seen import can_be, fit_together, least_period, share_ends, shares_for
from tests.helpers import BIG, NO_LISTS, NO_NUMBERS, choices, outcome


def is_plainly_even(share, period, process, seen):
    """Return whether a process is even in what was seen."""
    count = 0
    for moment, row in enumerate(seen, 1):
        count += process in row
        if not -1 < Fraction(share * moment, period) - count < 1:
            return False
    return True


def full_shares(processors, many, period, seens):
    """Return all lists of shares of full loads with a period for which all that was seen is even, ascending."""
    fitting = [
        [
            share for share in range(1, period + 1)
            if all(is_plainly_even(share, period, process, seen) for seen in seens)
        ]
        for process in range(many)
    ]
    return [list(shares) for shares in product(*fitting) if sum(shares) == processors * period]


def all_seen(processors, many, ticks):
    rows = [list(row) for size in range(processors + 1) for row in combinations(range(many), size)]
    return [list(seen) for seen in product(rows, repeat=ticks)]


def drawn_seen(draw, processors, shares, period, ticks):
    """Return ticks in which mostly those with the greatest lags run, on a full load."""
    lags, seen = [0] * len(shares), []
    wild = draw.choice([0, 0, 0.02, 0.3])
    for _ in range(ticks):
        lags = [lag + share for lag, share in zip(lags, shares)]
        row = sorted(range(len(shares)), key=lambda process: (-lags[process], draw.random()))[:processors]
        if draw.random() < wild:
            row = draw.sample(range(len(shares)), draw.randint(0, processors))
        for process in row:
            lags[process] -= period
        seen.append(sorted(row))
    return seen


def drawn_case(draw, period, many, ticks):
    """Return processors, many and what was seen of a drawn full load."""
    while True:
        processors, size, length = draw.randint(1, 3), draw.randint(1, many), draw.randint(1, period)
        shares = [draw.randint(1, length) for _ in range(size)]
        shares[-1] = processors * length - sum(shares[:-1])
        if 1 <= shares[-1] <= length:
            return processors, size, drawn_seen(draw, processors, shares, length, draw.randint(1, ticks))


# processors, many, and what was seen: each list of ticks of small rounds, and some more
SMALL = [
    *[(1, many, seen) for many in [1, 2, 3] for ticks in [1, 2, 3] for seen in all_seen(1, many, ticks)],
    *[(2, many, seen) for many in [1, 2, 3] for ticks in [1, 2] for seen in all_seen(2, many, ticks)],
    *[(1, 2, seen) for seen in all_seen(1, 2, 5)], *[(2, 3, seen) for seen in all_seen(2, 3, 3)[::5]],
    (3, 2, [[0, 1]]), (12, 12, [list(range(12))] * 3), (1, 1, [[0]] * 200), (1, 1, [[]]), (2, 3, [[0, 1], [0, 2]] * 3),
    (2, 3, [[0, 1], [0, 2], [1]]), (1, 2, [[0]] * 9), (2, 2, [[0, 1]] * 4), (2, 2, [[0, 1], [0]]), (1, 12, [[]]),
]


class ShareEnds(unittest.TestCase):
    def check(self, processors, many, seen):
        with self.subTest(processors=processors, many=many, seen=seen):
            wanted = []
            for process in range(many):
                counts = [sum(process in row for row in seen[:moment]) for moment in range(len(seen) + 1)]
                moments = range(1, len(seen) + 1)
                low = max([Fraction(0), *[Fraction(counts[moment] - 1, moment) for moment in moments]])
                high = min([Fraction(1), *[Fraction(counts[moment] + 1, moment) for moment in moments]])
                wanted.append(((low.numerator, low.denominator), (high.numerator, high.denominator)))
            self.assertEqual(share_ends(processors, many, seen), wanted)

    def test_small_ones(self):
        for case in SMALL:
            self.check(*case)

    def test_drawn_ones(self):
        draw = Random(30)
        for _ in range(100):
            self.check(*drawn_case(draw, 40, 12, 200))
        for _ in range(30):
            rows = [sorted(draw.sample(range(12), draw.randint(0, 12))) for _ in range(draw.randint(1, 200))]
            self.check(12, 12, rows)

    def test_kinds(self):
        told = share_ends(1, 2, [[0], [1], [0]])
        self.assertEqual([type(told), type(told[0]), type(told[0][0])], [list, tuple, tuple])

    def test_even_exactly_between_the_ends(self):
        draw = Random(300)
        for processors, many, seen in [*SMALL[::7], *[drawn_case(draw, 12, 5, 20) for _ in range(40)]]:
            for process, (low, high) in enumerate(share_ends(processors, many, seen)):
                always = all(process in row for row in seen)
                for period in [1, 2, 5, 7, 12, 30]:
                    for share in range(1, period + 1):
                        value = Fraction(share, period)
                        inside = Fraction(*low) < value < Fraction(*high) or (value == 1 and always)
                        self.assertIs(is_plainly_even(share, period, process, seen), inside)


class AgainstAllLoads(unittest.TestCase):
    MOST = 8

    def check(self, processors, many, seen):
        with self.subTest(processors=processors, many=many, seen=seen):
            found = {}
            for period in range(1, self.MOST + 1):
                lists = full_shares(processors, many, period, [seen])
                if lists and not found:
                    found = {"period": period, "shares": lists[0]}
            told = least_period(processors, many, seen, self.MOST)
            self.assertEqual(told, found.get("period"))
            self.assertEqual(shares_for(processors, many, seen, self.MOST), found.get("shares"))
            if told is not None:
                self.assertIs(can_be(processors, many, seen), True)
                for most in range(1, self.MOST + 1):
                    self.assertEqual(least_period(processors, many, seen, most), told if told <= most else None)
                    wanted = found["shares"] if told <= most else None
                    self.assertEqual(shares_for(processors, many, seen, most), wanted)
                self.assertTrue(is_even((processors, told, found["shares"]), seen))
            return told

    def test_small_ones(self):
        for processors, many, seen in SMALL:
            if many < 12:
                self.check(processors, many, seen)
                # of so few ticks a period up to 12 tells all
                wanted = len(seen) > 5 or any(full_shares(processors, many, period, [seen]) for period in range(1, 13))
                self.assertIs(can_be(processors, many, seen), wanted)

    def test_drawn_ones(self):
        draw = Random(31)
        found = {}
        for _ in range(150):
            found[self.check(*drawn_case(draw, 9, 4, 14))] = True
        self.assertGreater(len(found), 5)

    def test_can_be_is_a_period_however_great(self):
        draw = Random(310)
        seen_both = {}
        for _ in range(300):
            case = drawn_case(draw, 30, 6, 40)
            told = can_be(*case)
            seen_both[told] = True
            self.assertIs(least_period(*case, 2000) is not None, told, case)
        self.assertEqual(len(seen_both), 2)


class Together(unittest.TestCase):
    def test_against_all_loads(self):
        draw = Random(32)
        told_both = {}
        for _ in range(250):
            processors, many, one = drawn_case(draw, 7, 3, 5)
            rows = [list(row) for size in range(processors + 1) for row in combinations(range(many), size)]
            other = [draw.choice(rows) for _ in range(draw.randint(1, 5))]
            if draw.random() < 0.4:
                other = [sorted(row) for row in one[::-1]]
            with self.subTest(processors=processors, many=many, one=one, other=other):
                wanted = any(full_shares(processors, many, period, [one, other]) for period in range(1, 31))
                for both in [(one, other), (other, one)]:
                    told = fit_together(processors, many, *both)
                    self.assertIs(told, wanted)
                told_both[wanted] = True
        self.assertEqual(len(told_both), 2)

    def test_the_same_twice_is_the_same(self):
        for processors, many, seen in SMALL:
            self.assertIs(fit_together(processors, many, seen, seen), can_be(processors, many, seen))

    def test_in_each_tick_of_one_but_not_of_the_other(self):
        self.assertIs(fit_together(1, 1, [[0]], [[0], [0]]), True)
        self.assertIs(fit_together(1, 1, [[0]], [[]]), False)
        self.assertIs(fit_together(2, 3, [[0, 1], [0, 2]], [[1, 2]]), True)
        self.assertIs(fit_together(2, 2, [[0, 1]], [[0, 1], [0, 1]]), True)
        self.assertIs(fit_together(2, 2, [[0, 1]], [[0], [0, 1]]), False)


class Edges(unittest.TestCase):
    def test_a_process_that_ran_in_each_tick(self):
        for ticks in [1, 2, 200]:
            self.assertEqual(share_ends(1, 1, [[0]] * ticks)[0][1], (1, 1))
            self.assertEqual(least_period(1, 1, [[0]] * ticks, 1), 1)
            self.assertEqual(shares_for(1, 1, [[0]] * ticks, 1), [1])
            # beside another process it must leave something
            self.assertEqual(least_period(1, 2, [[0]] * ticks, 2000), ticks + 1 if ticks > 1 else 2)
        self.assertEqual(shares_for(2, 3, [[0, 1], [0, 2]], 9), [2, 1, 1])

    def test_a_process_that_never_ran(self):
        self.assertEqual(share_ends(2, 3, [[0, 1]] * 5), [((4, 5), (1, 1)), ((4, 5), (1, 1)), ((0, 1), (1, 5))])
        self.assertEqual(shares_for(2, 3, [[0, 1]] * 5, 50), [5, 6, 1])
        self.assertEqual(least_period(2, 3, [[0, 1]] * 5, 50), 6)
        self.assertIsNone(shares_for(2, 3, [[0, 1]] * 5, 5))

    def test_a_tick_in_which_too_few_ran(self):
        self.assertIs(can_be(1, 1, [[]]), False)
        self.assertIs(can_be(1, 2, [[]]), True)
        self.assertIs(can_be(1, 2, [[], []]), False)
        self.assertIs(can_be(1, 3, [[], []]), True)
        self.assertEqual(shares_for(1, 3, [[], []], 9), [1, 1, 1])
        self.assertIs(can_be(2, 3, [[0], [1]]), True)
        self.assertIs(can_be(2, 3, [[], []]), False)

    def test_more_processors_than_processes(self):
        for many in [1, 2]:
            self.assertIs(can_be(3, many, [list(range(many))]), False)
            self.assertIsNone(shares_for(3, many, [list(range(many))], 2000))

    def test_most(self):
        seen = [[0]] * 99 + [[1]]
        self.assertEqual(least_period(1, 2, seen, 2000), 100)
        self.assertEqual([least_period(1, 2, seen, most) for most in [99, 100, 101]], [None, 100, 100])
        self.assertEqual([shares_for(1, 2, seen, most) for most in [99, 100, 101]], [None, [99, 1], [99, 1]])
        for value in [*NO_NUMBERS, 0, 2001, BIG]:
            for function in [least_period, shares_for]:
                self.assertEqual(outcome(function, 1, 2, seen, value), [errors.InvalidNumber, {}])

    def test_limits(self):
        draw = Random(33)
        shares = [333, 334, 335, 331, 329, 337, 338, 330, 332, 333, 334, 330]
        seen = drawn_seen(draw, 4, shares, 999, 200)
        told = least_period(4, 12, seen, 2000)
        if told is not None:
            found = shares_for(4, 12, seen, 2000)
            self.assertTrue(is_even((4, told, found), seen))
            self.assertEqual(sum(found), 4 * told)
        for seen in [[list(range(12))] * 200, [[]] * 200, [[0]] * 199 + [[1]]]:
            self.assertEqual(len(share_ends(12, 12, seen)), 12)


WRONG = {
    "processors": [(value, [errors.InvalidNumber, {}]) for value in [*NO_NUMBERS, 0, 13, BIG]],
    "many": [(value, [errors.InvalidNumber, {}]) for value in [*NO_NUMBERS, 0, 13, BIG]],
    "seen": [(value, [errors.InvalidSeen, {"index": index}]) for value, index in [
        *[(value, None) for value in [*NO_LISTS, ([0], [1]), [], [[0]] * 201, [None] * 201]],
        *[([value, None], 0) for value in [None, True, 0, "0", (), (0,), {}, [3], [-1], [1, 0], [0, 0], [BIG]]],
        *[([[0, 1], value, [7]], 1) for value in [[0, 1, 2], [True], [False], [0, True], [None], ["0"], [[0]], [0, 3]]],
        ([[0]] * 199 + [[1, 0]], 199), ([[], [2, 1]], 1),
    ]],
}


class Parameters(unittest.TestCase):
    CALLS = [
        (share_ends, ["processors", "many", "seen"], {}), (can_be, ["processors", "many", "seen"], {}),
        (least_period, ["processors", "many", "seen"], {"most": 5}),
        (shares_for, ["processors", "many", "seen"], {"most": 5}),
        (fit_together, ["processors", "many", "one"], {"other": [[0]]}),
    ]
    RIGHT = {"processors": 2, "many": 3, "seen": [[0, 1], [2], []]}

    def test_each_one(self):
        for function, names, more in self.CALLS:
            for name, cases in WRONG.items():
                for value, wanted in cases:
                    values = list({**self.RIGHT, name: value}.values())
                    with self.subTest(function=function.__name__, name=name, value=value):
                        self.assertEqual(outcome(function, *values, *more.values()), wanted)
                        self.assertEqual(outcome(function, **dict(zip(names, values)), **more), wanted)

    def test_the_first_one_counts(self):
        for function, names, more in self.CALLS:
            for wrong in choices(list(WRONG)):
                values = list({**self.RIGHT, **{name: WRONG[name][-1][0] for name in wrong}}.values())
                for last in [more, {name: None for name in more}]:
                    with self.subTest(function=function.__name__, wrong=wrong):
                        told = outcome(function, **dict(zip(names, values)), **last)
                        self.assertEqual(told, WRONG[wrong[0]][-1][1])

    def test_other(self):
        for value, wanted in WRONG["seen"]:
            with self.subTest(value=value):
                self.assertEqual(outcome(fit_together, 2, 3, [[0]], value), wanted)
                self.assertEqual(outcome(fit_together, 2, 3, one=[[2], [9]], other=value),
                                 [errors.InvalidSeen, {"index": 1}])

    def test_right_edges(self):
        self.assertEqual(len(share_ends(12, 12, [list(range(12))])), 12)
        self.assertEqual(share_ends(1, 12, [[11]])[11], ((0, 1), (1, 1)))
        self.assertEqual(len(share_ends(1, 1, [[0]] * 200)), 1)
