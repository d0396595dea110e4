"""Points 17 and 18, with the definitions of points 8 and 9."""

import unittest
from itertools import combinations, product
from random import Random

from evenslices import errors
from evenslices.groups import first_breach, group_bounds, group_plan, is_groups, slice_plan
from tests.helpers import BIG, NO_LISTS, drawn_groups, drawn_load, due_ends, is_round, outcome, round_plans, small_loads

FOUR = (2, 4, [2, 2, 2, 2])
TWELVE = (12, 7, [7, 6, 5, 4, 3, 2, 1, 1, 2, 3, 4, 5])

# sets of a tree over twelve processes: all of them, six pairs, twelve single ones
TREE = [list(range(12)), *[[pair, pair + 1] for pair in range(0, 12, 2)], *[[process] for process in range(12)]]

# values that are no groups of FOUR, each with its index
NO_GROUPS = [
    *[(value, None) for value in [*NO_LISTS, ([0],), [[0]] * 21, [None] * 21]],
    *[([value], 0) for value in [None, True, 0, "0", "", (), (0,), {}, [], [4], [-1], [1, 0], [0, 0], [0, 1, 1]]],
    *[([value], 0) for value in [[True], [False], [0, True], [None], ["0"], [[0]], [0, 4], [0, 1, 2, 3, 4], [BIG]]],
    *[([[0, 1], value], 1) for value in [None, [], [1, 0], [4], [0, 1], [1, 2], [0, 2], [0, 3], [1, 2, 3], [0, 2, 3]]],
    ([[0], [1], [0]], 2),
    ([[0, 1], [2, 3], [0], [1, 2]], 3),
    ([[0, 1, 2], [0, 1], [1, 2]], 2),
    ([[0, 1], [0, 1, 2], [0], [0, 3], [4]], 3),
    ([[0, 1], [1, 2], []], 1),
    ([[], [0, 1], [1, 2]], 0),
    ([[0]] * 20, 1),
    ([[0], [1], [2], [3], [0, 1], [2, 3], [0, 1, 2, 3], [0, 1, 2, 3]], 7),
]

GROUPS = [
    [], [[0]], [[3], [2], [1], [0]], [[0, 1], [2, 3]], [[0, 1, 2, 3]], [[0], [0, 1], [0, 1, 2], [0, 1, 2, 3]],
    [[0, 1, 2, 3], [0, 1, 2], [0, 2], [2], [3]], [[1, 3], [0, 2]], [[3], [0, 3], [1, 2], [1]],
]


def plain_breach(load, groups, plan):
    """Return the first breach as point 8 tells it."""
    _, period, shares = load
    everyone = list(range(len(shares)))
    for tick, row in enumerate(plan):
        for index, group in enumerate(groups + [everyone]):
            least, most = due_ends(sum(shares[process] for process in group), period, 1)
            if not least <= len(set(row) & set(group)) <= most:
                return tick, index
    return None


class IsGroups(unittest.TestCase):
    def test_groups(self):
        for groups in GROUPS:
            with self.subTest(groups=groups):
                self.assertIs(is_groups(FOUR, groups), True)
                self.assertIsNone(first_breach(FOUR, groups, []))

    def test_no_groups(self):
        for value, index in NO_GROUPS:
            with self.subTest(value=value):
                self.assertIs(is_groups(FOUR, value), False)
                wanted = [errors.InvalidGroups, {"index": index}]
                self.assertEqual(outcome(group_bounds, FOUR, value), wanted)
                self.assertEqual(outcome(first_breach, FOUR, value, [[7]]), wanted)
                self.assertEqual(outcome(group_plan, FOUR, value), wanted)
                self.assertEqual(outcome(slice_plan, FOUR, value, 9, -1, -1), wanted)

    def test_all_lists_of_three_small_groups(self):
        sets = [list(group) for size in range(1, 5) for group in combinations(range(4), size)]
        for groups in product(sets, repeat=3):
            wrong = None
            for index, group in reversed(list(enumerate(groups))):
                common = [(set(group) & set(other), other) for other in groups[:index]]
                if any(group == other or both not in [set(), set(group), set(other)] for both, other in common):
                    wrong = index
            with self.subTest(groups=groups):
                self.assertIs(is_groups(FOUR, list(groups)), wrong is None)
                if wrong is not None:
                    told = [errors.InvalidGroups, {"index": wrong}]
                    self.assertEqual(outcome(group_bounds, FOUR, list(groups)), told)

    def test_20_and_21_lists(self):
        self.assertEqual(len(TREE), 19)
        self.assertIs(is_groups(TWELVE, TREE + [[0, 1, 2, 3]]), True)
        self.assertIs(is_groups(TWELVE, [[0, 1, 2, 3]] + TREE), True)
        too_many = TREE + [[0, 1, 2, 3], [4, 5, 6, 7]]
        self.assertIs(is_groups(TWELVE, too_many), False)
        self.assertEqual(outcome(group_bounds, TWELVE, too_many), [errors.InvalidGroups, {"index": None}])
        self.assertEqual(len(group_bounds(TWELVE, too_many[:20])), 20)

    def test_processes_depend_on_the_load(self):
        self.assertIs(is_groups((1, 4, [1, 1]), [[0, 1]]), True)
        self.assertIs(is_groups((1, 4, [1, 1]), [[0, 1, 2]]), False)
        self.assertIs(is_groups((1, 4, [1]), [[0], [0]]), False)

    def test_very_long_integers(self):
        self.assertEqual(outcome(group_bounds, FOUR, [[10 ** 5000]]), [errors.InvalidGroups, {"index": 0}])


class Bounds(unittest.TestCase):
    def test_against_fractions(self):
        draw = Random(17)
        for _ in range(300):
            load = drawn_load(draw, 6, 30, 8)
            groups = drawn_groups(draw, len(load[2]))
            wanted = [due_ends(sum(load[2][process] for process in group), load[1], 1) for group in groups]
            with self.subTest(load=load, groups=groups):
                self.assertEqual(group_bounds(load, groups), wanted)

    def test_edges(self):
        self.assertEqual(group_bounds(FOUR, []), [])
        self.assertEqual(group_bounds(FOUR, [[0], [0, 1], [0, 1, 2], [0, 1, 2, 3]]), [(0, 1), (1, 1), (1, 2), (2, 2)])
        self.assertEqual(group_bounds((12, BIG, [BIG] * 12), [list(range(12)), [11]]), [(12, 12), (1, 1)])
        self.assertEqual(group_bounds((2, BIG, [1, BIG]), [[0], [0, 1]]), [(0, 1), (1, 2)])


class Breaches(unittest.TestCase):
    def test_all_short_plans(self):
        ticks = [list(tick) for size in range(3) for tick in combinations(range(4), size)]
        loads = [FOUR, (2, 5, [3, 3, 2, 2]), (2, 3, [1, 1, 1, 1]), (2, 3, [1, 1, 1, 3]), (2, 9, [1, 1, 1, 1])]
        for load in loads:
            for groups in GROUPS:
                for plan in product(ticks, repeat=2):
                    plan = list(plan)
                    with self.subTest(load=load, groups=groups, plan=plan):
                        self.assertEqual(first_breach(load, groups, plan), plain_breach(load, groups, plan))

    def test_at_the_first_a_middle_and_the_last_tick(self):
        groups = [[0, 1], [2, 3]]
        good = [[0, 2], [1, 3], [0, 3], [1, 2], [0, 2]]
        self.assertIsNone(first_breach(FOUR, groups, good))
        for tick in range(5):
            for row, index in [([0, 1], 0), ([2, 3], 0), ([2], 0), ([0], 1), ([], 0)]:
                plan = good[:tick] + [row] + good[tick + 1:]
                with self.subTest(plan=plan):
                    self.assertEqual(first_breach(FOUR, groups, plan), (tick, index))
                    self.assertEqual(first_breach(FOUR, [[3], *groups], plan), (tick, index + 1))

    def test_the_number_of_all_processes(self):
        for tick in range(3):
            plan = [[0, 1], [2, 3], [0, 3]]
            plan[tick] = [2]
            self.assertEqual(first_breach(FOUR, [], plan), (tick, 0))
            self.assertEqual(first_breach(FOUR, [[2], [3]], plan), (tick, 2))
        # five slices in three ticks: one or two in each of them
        load = (3, 3, [2, 2, 1])
        self.assertIsNone(first_breach(load, [], [[0, 1], [0, 1], [2]]))
        self.assertEqual(first_breach(load, [], [[0, 1], [0, 1], []]), (2, 0))
        self.assertEqual(first_breach(load, [], [[0, 1], [0, 1, 2], []]), (1, 0))

    def test_the_least_index_counts(self):
        load = (2, 2, [2, 1, 1])
        self.assertEqual(first_breach(load, [[1, 2], [0]], [[1, 2], [0]]), (0, 0))
        self.assertEqual(first_breach(load, [[0], [1, 2]], [[1, 2], [0]]), (0, 0))
        self.assertEqual(first_breach(load, [[2], [1, 2], [0]], [[0, 1], [1]]), (1, 2))

    def test_plans_need_not_be_even(self):
        self.assertIsNone(first_breach(FOUR, [[0, 1]], [[0, 2]] * 1000))
        self.assertEqual(first_breach(FOUR, [[0, 1]], [[0, 2]] * 999 + [[0, 1]]), (999, 0))

    def test_long_plan_with_many_groups(self):
        load = (12, 2, [1] * 12)
        plan = [[0, 2, 4, 6, 8, 10], [1, 3, 5, 7, 9, 11]] * 500
        self.assertIsNone(first_breach(load, TREE, plan))
        self.assertEqual(first_breach(load, TREE, plan[:999] + [[0, 1, 4, 6, 8, 10]]), (999, 1))


class Plans(unittest.TestCase):
    def check(self, load, groups, plan):
        self.assertTrue(is_round(load, plan), plan)
        self.assertIsNone(plain_breach(load, groups, plan), plan)

    def test_each_slice_at_each_tick_of_small_loads(self):
        loads = [*small_loads(1, 5, 2), *small_loads(2, 4, 3), FOUR, (3, 5, [4, 4, 3, 3, 1]), (1, 6, [3, 2, 1])]
        draw = Random(8)
        for load in loads:
            groups = drawn_groups(draw, len(load[2]))
            with self.subTest(load=load, groups=groups):
                self.check(load, groups, group_plan(load, groups))
            for process, share in enumerate(load[2]):
                for number in range(share):
                    self.check_slice(load, groups, process, number)

    def check_slice(self, load, groups, process, number):
        _, period, shares = load
        first = due_ends(period, shares[process], number)[0]
        behind = due_ends(period, shares[process], number + 1)[1]
        for tick in range(first, behind):
            with self.subTest(load=load, groups=groups, process=process, number=number, tick=tick):
                plan = slice_plan(load, groups, process, number, tick)
                self.check(load, groups, plan)
                ticks = [at for at, row in enumerate(plan) if process in row]
                self.assertEqual(ticks[number], tick)
        for tick in [first - 1, behind, behind + period, BIG]:
            if tick >= 0:
                told = outcome(slice_plan, load, groups, process, number, tick)
                self.assertEqual(told, [errors.NotInWindow, {}])

    def test_drawn_loads(self):
        draw = Random(1)
        for _ in range(250):
            load = drawn_load(draw, 7, 24, 8)
            groups = drawn_groups(draw, len(load[2]))
            with self.subTest(load=load, groups=groups):
                self.check(load, groups, group_plan(load, groups))
            process = draw.randrange(len(load[2]))
            self.check_slice(load, groups, process, draw.randrange(load[2][process]))

    def test_largest_loads(self):
        draw = Random(60)
        for processors in [1, 2, 5, 7]:
            for _ in range(3):
                shares = [1] * 8
                while sum(shares) < processors * 60:
                    process = draw.choice([process for process in range(8) if shares[process] < 60])
                    shares[process] += min(draw.randint(1, 9), 60 - shares[process], processors * 60 - sum(shares))
                load, groups = (processors, 60, shares), drawn_groups(draw, 8)
                with self.subTest(load=load, groups=groups):
                    self.check(load, groups, group_plan(load, groups))
                    process = draw.randrange(8)
                    number = draw.randrange(shares[process])
                    tick = number * 60 // shares[process]
                    plan = slice_plan(load, groups, process, number, tick)
                    self.check(load, groups, plan)
                    self.assertIn(process, plan[tick])

    def test_all_processors_may_be_more_than_are_needed(self):
        self.check((12, 3, [1]), [[0]], group_plan((12, 3, [1]), [[0]]))
        self.check((5, 4, [4, 4, 1]), [[0, 1]], group_plan((5, 4, [4, 4, 1]), [[0, 1]]))
        self.assertEqual(group_plan((3, 2, [2, 2, 2]), [[0], [1, 2]]), [[0, 1, 2], [0, 1, 2]])
        self.assertEqual(group_plan((1, 1, [1]), [[0]]), [[0]])

    def test_plans_are_among_all(self):
        for load in [FOUR, (2, 3, [2, 2, 2]), (1, 6, [3, 2, 1]), (3, 4, [3, 3, 2, 1])]:
            every = round_plans(load)
            for groups in [[], [[0, 1]], [[0], [0, 1]]]:
                keeping = [plan for plan in every if plain_breach(load, groups, plan) is None]
                self.assertIn(group_plan(load, groups), keeping)

    def test_number_and_tick(self):
        for number in [2, 3, BIG, -1, True, None]:
            told = outcome(slice_plan, FOUR, [], 0, number, 0)
            self.assertEqual(told, [errors.InvalidNumber, {}])
        for tick in [-1, True, None, "0"]:
            self.assertEqual(outcome(slice_plan, FOUR, [], 0, 0, tick), [errors.InvalidNumber, {}])
        for number, ticks in [(0, [0, 1]), (1, [2, 3])]:
            for tick in range(6):
                if tick in ticks:
                    self.assertIn(0, slice_plan(FOUR, [], 0, number, tick)[tick])
                else:
                    told = outcome(slice_plan, FOUR, [], 0, number, tick)
                    self.assertEqual(told, [errors.NotInWindow, {}])
