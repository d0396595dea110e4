"""Points 32 and 33."""

import unittest
from fractions import Fraction
from random import Random

from evenslices import errors
from evenslices.plans import extreme_lags, first_off
from evenslices.rules import rule_lags, rule_off, rule_plan
from tests.helpers import BIG, NO_LISTS, NO_NUMBERS, choices, drawn_load, due_ends, outcome, small_loads

RULES = ["first end", "without waiting", "most behind"]

LOADS = [
    *small_loads(1, 4, 3), *small_loads(1, 6, 2), (1, 6, [3, 2, 1]), (1, 6, [1, 1, 1, 3]), (1, 8, [3, 3, 1, 1]),
    (1, 10, [4, 5, 1]), (1, 5, [1, 1, 1, 1, 1]), (1, 12, [1] * 12), (1, 8, [3, 2, 1, 1]), (1, 9, [5, 1, 1]),
    (1, 7, [2, 2, 2, 1]), (1, 20, [9, 4, 3, 2, 1, 1]), (1, 20, [7, 7, 6]), (1, 15, [5, 5, 1, 1, 1, 1, 1]),
]

LONG = [
    (1, 1000, [83] * 11 + [87]), (1, 1000, [999, 1]), (1, 1000, [1000]), (1, 997, [500, 300, 100, 50, 40, 7]),
    (1, 1000, [500, 250, 125]), (1, 1000, [1] * 12),
]


def window(load, process, number):
    """Return the first and the last tick of a window, as point 7 tells them."""
    _, period, shares = load
    return due_ends(period, shares[process], number)[0], due_ends(period, shares[process], number + 1)[1] - 1


def told_by(rule, load, counts, tick):
    """Return the process that the words of a rule tell, or None."""
    _, period, shares = load
    every = range(len(shares))
    windows = [window(load, process, counts[process]) for process in every]
    if rule == "most behind":
        lags = [Fraction(shares[process] * (tick + 1), period) - counts[process] for process in every]
        return lags.index(max(lags))
    ready = [process for process in every if rule == "without waiting" or windows[process][0] <= tick]
    ends = [windows[process][1] for process in ready]
    return ready[ends.index(min(ends))] if ready else None


def plain_plan(load, rule, many):
    counts, plan = [0] * len(load[2]), []
    for tick in range(many):
        process = told_by(rule, load, counts, tick)
        plan.append([] if process is None else [process])
        if process is not None:
            counts[process] += 1
    return plan


def rules_for(load):
    return RULES if sum(load[2]) == load[1] else RULES[:1]


class AgainstTheWords(unittest.TestCase):
    def check(self, load, rule, many):
        with self.subTest(load=load, rule=rule):
            plan = plain_plan(load, rule, many)
            for ticks in sorted({0, 1, many // 2, many}):
                self.assertEqual(rule_plan(load, rule, ticks), plan[:ticks])
            one_round = plan[:load[1]]
            off = first_off(load, one_round)
            self.assertEqual(rule_off(load, rule), off)
            self.assertEqual(rule_lags(load, rule), extreme_lags(load, one_round))
            if rule == "first end":
                self.assertIsNone(off)
            return off

    def test_small_loads(self):
        found = {}
        for load in LOADS:
            for rule in rules_for(load):
                found[rule, self.check(load, rule, 3 * load[1]) is None] = True
        self.assertEqual(len(found), 5)

    def test_drawn_loads(self):
        draw = Random(32)
        found = {}
        for _ in range(150):
            load = drawn_load(draw, 1, 30, 9)
            for rule in rules_for(load):
                found[rule, self.check(load, rule, load[1] + 7) is None] = True
        self.assertGreaterEqual(len(found), 4)

    def test_long_loads(self):
        for load in LONG:
            for rule in rules_for(load):
                self.check(load, rule, 1000)

    def test_equal_candidates(self):
        for rule in RULES:
            self.assertEqual(rule_plan((1, 4, [1, 1, 1, 1]), rule, 5), [[0], [1], [2], [3], [0]])
            self.assertEqual(rule_plan((1, 4, [2, 2]), rule, 4), [[0], [1], [0], [1]])

    def test_first_moment_and_least_process(self):
        self.assertEqual(rule_off((1, 6, [1, 1, 1, 3]), "without waiting"), (2, 3))
        self.assertEqual(rule_lags((1, 6, [1, 1, 1, 3]), "without waiting"), (-6, 4))
        self.assertEqual(rule_lags((1, 2, [1, 1]), "most behind"), (-1, 1))
        self.assertEqual(rule_lags((1, 1, [1]), "without waiting"), (0, 0))
        self.assertEqual(rule_lags((1, 4, [1, 1]), "first end"), (-3, 1))


class Parameters(unittest.TestCase):
    TWO = (2, 4, [3, 3, 1])
    LESS = (1, 4, [2, 1])
    DULL = (1, 8, [3, 3, 1, 1])

    def calls(self, load, rule):
        return [(rule_plan, load, rule, 3), (rule_off, load, rule), (rule_lags, load, rule)]

    def test_rule(self):
        wrong = [*NO_LISTS, 0, "", "first", "First end", "first end ", " first end", "most behin", ["first end"],
                 ("first end",), {"first end": 1}, "without  waiting", BIG]
        for load in [self.DULL, self.TWO, self.LESS, (2, 4, [4, 4])]:
            for rule in wrong:
                for call in self.calls(load, rule):
                    with self.subTest(call=call):
                        self.assertEqual(outcome(*call), [errors.InvalidRule, {}])

    def test_many(self):
        for load in [self.DULL, self.TWO, self.LESS]:
            for rule in RULES:
                for many in [*NO_NUMBERS, 1001, BIG]:
                    with self.subTest(load=load, rule=rule, many=many):
                        self.assertEqual(outcome(rule_plan, load, rule, many), [errors.InvalidNumber, {}])
        self.assertEqual(len(rule_plan(self.DULL, "most behind", 1000)), 1000)

    def test_not_single_is_ahead_of_not_full(self):
        for rule in RULES:
            for load in [self.TWO, (2, 4, [4, 4]), (2, 4, [1]), (12, 1, [1] * 12)]:
                for call in self.calls(load, rule):
                    self.assertEqual(outcome(*call), [errors.NotSingle, {}])

    def test_not_full(self):
        for rule in RULES[1:]:
            for load in [self.LESS, (1, 4, [1]), (1, BIG, [1, BIG - 2])]:
                for call in self.calls(load, rule):
                    self.assertEqual(outcome(*call), [errors.NotFull, {}])
        self.assertEqual(rule_plan(self.LESS, "first end", 4), [[0], [1], [0], []])
        self.assertIsNone(rule_off(self.LESS, "first end"))

    def test_the_first_one_counts(self):
        wrong = {
            "load": ((1, 0, [1]), [errors.InvalidLoad, {"index": 1}]), "rule": ("x", [errors.InvalidRule, {}]),
            "many": (-1, [errors.InvalidNumber, {}]),
        }
        for load in [self.DULL, self.TWO, self.LESS]:
            right = {"load": load, "rule": "most behind", "many": 5}
            for names in choices(list(wrong)):
                values = {**right, **{name: wrong[name][0] for name in names}}
                with self.subTest(load=load, names=names):
                    self.assertEqual(outcome(rule_plan, **values), wrong[names[0]][1])
            for names in choices(["load", "rule"]):
                values = {"load": load, "rule": "most behind", **{name: wrong[name][0] for name in names}}
                for function in [rule_off, rule_lags]:
                    self.assertEqual(outcome(function, **values), wrong[names[0]][1])
