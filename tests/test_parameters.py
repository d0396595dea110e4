"""Points 2 and 3: parameters, the order of errors, and what is done with arguments."""

import copy
import inspect
import unittest

from evenslices import cases, counting, errors, groups, limits, loads, plans, states
from tests.helpers import BIG, NO_LISTS, NO_LOADS, NO_NUMBERS, NO_PLANS, choices, outcome
from tests.signatures import (
    DULL, FOUR, NUMBERS, ROUND, SIGNATURES, SINGLE, TWO_PROCESSORS, WRONG, arguments, lists_in,
)

class Interface(unittest.TestCase):
    def test_names_of_parameters(self):
        for function, names in SIGNATURES.items():
            with self.subTest(function=function.__name__):
                self.assertEqual(list(inspect.signature(function).parameters), names)

    def test_by_position_and_by_name(self):
        for function in SIGNATURES:
            with self.subTest(function=function.__name__):
                values = arguments(function)
                self.assertEqual(function(*values.values()), function(**values))

    def test_equal_results_and_arguments_as_they_were(self):
        for function in SIGNATURES:
            with self.subTest(function=function.__name__):
                values = arguments(function)
                first = function(**values)
                self.assertEqual(function(**values), first)
                self.assertEqual(function(**arguments(function)), first)
                self.assertEqual(values, arguments(function))

    def test_arguments_as_they_were_behind_an_error(self):
        for function, names in SIGNATURES.items():
            for wrong in [name for name in names if name in WRONG]:
                with self.subTest(function=function.__name__, wrong=wrong):
                    values = arguments(function, **{wrong: WRONG[wrong][0]})
                    outcome(function, **values)
                    self.assertEqual(values, arguments(function, **{wrong: WRONG[wrong][0]}))


class NewLists(unittest.TestCase):
    def test_returned_lists_are_new_inner_ones_too(self):
        for function in SIGNATURES:
            with self.subTest(function=function.__name__):
                values = arguments(function)
                told = function(**values)
                found, given = lists_in(told), lists_in(list(values.values()))
                self.assertEqual(len(set(map(id, found))), len(found))
                self.assertFalse(set(map(id, found)) & set(map(id, given)))
                kept = copy.deepcopy(told)
                for part in found:
                    part.append(99)
                self.assertEqual(values, arguments(function))
                self.assertEqual(function(**values), kept)

    def test_lists_can_be_changed_without_harm(self):
        for function in [plans.counts_of, plans.lag_numbers, plans.rests_of]:
            with self.subTest(function=function.__name__):
                plan, load = copy.deepcopy(ROUND), copy.deepcopy(FOUR)
                told = function(load, plan)
                kept = copy.deepcopy(told)
                for part in [part for part in told if isinstance(part, list)] + [told]:
                    part.append(99)
                self.assertEqual([load, plan, function(load, plan)], [FOUR, ROUND, kept])

    def test_inner_lists_are_new_and_different(self):
        plan = [[0]] * 3
        rests = plans.rests_of((2, 3, [2, 2, 2]), plan)
        rests[0].append(99)
        self.assertEqual([rests[1:], plan], [[[1, 2], [1, 2]], [[0]] * 3])

    def test_far_tick(self):
        plan = copy.deepcopy(ROUND)
        told = plans.far_tick(FOUR, plan, 4)
        told.append(99)
        self.assertEqual([plan, plans.far_tick(FOUR, plan, 4)], [ROUND, [0, 1]])

    def test_slices_at(self):
        told = loads.slices_at(FOUR, 0, 1)
        told.append(99)
        self.assertEqual(loads.slices_at(FOUR, 0, 1), [0])

    def test_rest_load(self):
        load = (1, 2, [1, 1])
        told = loads.rest_load(load)
        self.assertEqual(told, load)
        told[2].append(99)
        self.assertEqual([load, loads.rest_load(load)], [(1, 2, [1, 1]), (1, 2, [1, 1])])


class WrongParameters(unittest.TestCase):
    def check(self, parameter, value, wanted):
        for function, names in SIGNATURES.items():
            if parameter not in names:
                continue
            with self.subTest(function=function.__name__, parameter=parameter, value=value):
                values = arguments(function)
                values[parameter] = value
                self.assertEqual(outcome(function, **values), wanted)
                self.assertEqual(outcome(function, *values.values()), wanted)

    def test_load(self):
        for value, index in NO_LOADS:
            self.check("load", value, [errors.InvalidLoad, {"index": index}])

    def test_process(self):
        for value in [*NO_NUMBERS, 4, 5, 12, BIG, 10 ** 40]:
            self.check("process", value, [errors.InvalidProcess, {}])

    def test_plan(self):
        for value, index in NO_PLANS:
            self.check("plan", value, [errors.InvalidPlan, {"index": index}])

    def test_numbers(self):
        for parameter in NUMBERS:
            for value in NO_NUMBERS:
                self.check(parameter, value, [errors.InvalidNumber, {}])

    def test_groups(self):
        for value, index in [(None, None), ([[0]] * 21, None), ([[4]], 0), ([[0], [0]], 1), ([[0, 1], [1, 2]], 1)]:
            self.check("groups", value, [errors.InvalidGroups, {"index": index}])

    def test_pairs(self):
        wrong = [
            *[(value, None) for value in [*NO_LISTS, ((0, 0),), [(0, 0)] * 301, [None] * 301]],
            *[([value], 0) for value in [None, True, 0, "00", [], [0, 0], {}, (), (0,), (0, 0, 0), (0, None)]],
            ([("0", 0)], 0),
            *[([value], 0) for value in [(4, 0), (-1, 0), (BIG, 0), (0, 4), (0, -1), (True, 0), (1, False), (0, BIG)]],
            *[([(1, 1), value, None], 1) for value in [(1, 1), (1, 0), (0, 3), (4, 0), (2, 4), None, (2,), [2, 0]]],
            ([(0, 0)] * 300, 1), ([(0, 0), (0, 3), (1, 0), (3, 3), (3, 3)], 4),
        ]
        for value, index in wrong:
            self.check("pairs", value, [errors.InvalidPairs, {"index": index}])

    def test_right_edges_of_pairs(self):
        every = [(tick, process) for tick in range(4) for process in range(4)]
        self.assertEqual([counting.most_pairs(FOUR, [], pairs) for pairs in [every, []]], [8, 0])
        many = [(tick, process) for tick in range(60) for process in range(5)]
        self.assertEqual(counting.least_pairs((5, 60, [60] * 5), [], many), 300)

    def test_numbers_with_a_greatest_one(self):
        for number in [2, BIG]:
            values = {"number": number}
            for function in [groups.slice_plan, counting.count_with, limits.limit_window]:
                self.assertEqual(outcome(function, **arguments(function, **values)), [errors.InvalidNumber, {}])
        for limit in [4, BIG]:
            for function in [limits.limit_window, limits.limit_plan, limits.limit_ticks, limits.shows_limit]:
                self.assertEqual(outcome(function, **arguments(function, limit=limit)), [errors.InvalidNumber, {}])

    def test_counts(self):
        wrong = [
            *[(value, None) for value in [*NO_LISTS, (1, 1, 0, 0), [], [1, 1, 0], [1, 1, 0, 0, 0]]],
            *[([1, value, 0, 0], None) for value in [None, True, False, "1", [1], (1,), {}]],
            ([99, 1, 0, None], None), ([None, 99, 0, 0], None),
            *[([value, 1, 0, 0], 0) for value in [-1, 3, BIG, -BIG, 10 ** 5000]],
            *[([1, value, 99, 0], 1) for value in [-1, 3]],
            *[([1, 1, 1, value], 3) for value in [-1, 2]],
        ]
        for value, index in wrong:
            self.check("counts", value, [errors.InvalidCounts, {"index": index}])

    def test_counts_where_the_due_is_a_whole_number(self):
        for index in range(4):
            for step in [-1, 1]:
                counts = [6, 6, 2, 2]
                counts[index] += step
                wanted = [errors.InvalidCounts, {"index": index}]
                self.assertEqual(outcome(states.is_state, DULL, 16, counts), wanted)
                self.assertEqual(outcome(cases.way_of, DULL, 16, counts, [1], []), wanted)
        self.assertIs(states.is_state(DULL, 16, [6, 6, 2, 2]), True)
        self.assertEqual(cases.way_of(DULL, 16, [6, 6, 2, 2], [0], []), [[]])

    def test_caps(self):
        wrong = [
            *[(value, None) for value in [*NO_LISTS, (2, 2, 1), [], [1] * 61, [None] * 61]],
            *[([value], 0) for value in [None, True, False, -1, 3, BIG, 10 ** 5000, "1", [1], (1,), {}]],
            *[([0, 1, 2, value, None], 3) for value in [True, -1, 3, None]],
            ([2] * 59 + [3], 59),
        ]
        for value, index in wrong:
            self.check("caps", value, [errors.InvalidCaps, {"index": index}])

    def test_asleep(self):
        wrong = [
            *[(value, None) for value in [*NO_LISTS, ((2, 0),), [(2, 0)] * 201, [None] * 201]],
            *[([value], 0) for value in [None, True, 2, "20", [], [2, 0], {}, (), (2,), (2, 0, 0), (2, None)]],
            ([("2", 0)], 0),
            *[([value], 0) for value in [(0, 0), (4, 0), (-1, 0), (BIG, 0), (1, 4), (1, -1), (True, 0), (2, False)]],
            *[([(2, 1), value, None], 1) for value in [(2, 1), (2, 0), (1, 3), (4, 0), (3, 4), None, (3,), [3, 0]]],
            *[([(2, 1)] * many, 1) for many in [2, 200]],
            ([(1, 0), (1, 3), (2, 0), (3, 3), (3, 3)], 4),
        ]
        for value, index in wrong:
            self.check("asleep", value, [errors.InvalidAsleep, {"index": index}])

    def test_right_edges_of_a_case(self):
        self.assertEqual(len(cases.way_of(FOUR, 0, [0, 0, 0, 0], [2] * 60, [])), 60)
        every = [(tick, process) for tick in range(50) for process in range(4)]
        self.assertIsNone(cases.way_of(FOUR, 0, [0, 0, 0, 0], [2] * 60, every))
        self.assertEqual(cases.way_of((3, 8, [1] * 4), 1, [0, 0, 0, 0], [0], [(1, 0), (1, 3)]), [[]])

    def test_very_long_integers(self):
        self.check("process", 10 ** 5000, [errors.InvalidProcess, {}])
        self.check("moment", -10 ** 5000, [errors.InvalidNumber, {}])
        self.check("load", (10 ** 5000, 1, [1]), [errors.InvalidLoad, {"index": 0}])

    def test_the_first_wrong_parameter_counts(self):
        for function, names in SIGNATURES.items():
            for wrong in choices([name for name in names if name in WRONG]):
                with self.subTest(function=function.__name__, wrong=wrong):
                    values = arguments(function, **{name: WRONG[name][0] for name in wrong})
                    self.assertEqual(outcome(function, **values), WRONG[wrong[0]][1])

    def test_the_first_wrong_item_of_a_load_counts(self):
        self.assertEqual(outcome(loads.is_full, (0, 0, [])), [errors.InvalidLoad, {"index": 0}])
        self.assertEqual(outcome(loads.is_full, (1, 0, [])), [errors.InvalidLoad, {"index": 1}])
        self.assertEqual(outcome(loads.is_full, (0, 6, [7])), [errors.InvalidLoad, {"index": 0}])

    def test_the_first_wrong_tick_of_a_plan_counts(self):
        plan = [[0], [1, 0], [4], None]
        self.assertEqual(outcome(plans.counts_of, FOUR, plan), [errors.InvalidPlan, {"index": 1}])

    def test_limits_of_a_plan_depend_on_the_load(self):
        self.assertEqual(outcome(plans.counts_of, (1, 4, [2, 2]), [[0, 1]]), [errors.InvalidPlan, {"index": 0}])
        self.assertEqual(outcome(plans.counts_of, (1, 4, [2, 2]), [[0], [2]]), [errors.InvalidPlan, {"index": 1}])
        self.assertEqual(plans.counts_of((2, 4, [2, 2, 1]), [[0, 1], [2]]), [1, 1, 1])

    def test_long_numbers_are_no_errors(self):
        for number in [BIG, 10 ** 40]:
            self.assertEqual(loads.due_counts(FOUR, 0, 4 * number), (2 * number, 2 * number))
            self.assertEqual(plans.far_tick(FOUR, ROUND, 4 * number + 1), [2, 3])


class OrderBehindParameters(unittest.TestCase):
    def test_not_single_is_behind_the_parameters(self):
        self.assertEqual(len(SINGLE), 19)
        for function in SINGLE:
            with self.subTest(function=function.__name__):
                self.assertEqual(outcome(function, **arguments(function, **TWO_PROCESSORS)), [errors.NotSingle, {}])
            for wrong in choices([name for name in SIGNATURES[function] if name in WRONG]):
                with self.subTest(function=function.__name__, wrong=wrong):
                    values = {**TWO_PROCESSORS, **{name: WRONG[name][0] for name in wrong}}
                    self.assertEqual(outcome(function, **arguments(function, **values)), WRONG[wrong[0]][1])

    def test_not_in_window_is_behind_the_parameters(self):
        function = groups.slice_plan
        for number, tick in [(0, 2), (1, 1), (1, 4), (0, BIG)]:
            values = {"number": number, "tick": tick}
            self.assertEqual(outcome(function, **arguments(function, **values)), [errors.NotInWindow, {}])
            for wrong in choices(SIGNATURES[function]):
                with self.subTest(number=number, tick=tick, wrong=wrong):
                    mixed = {**values, **{name: WRONG[name][0] for name in wrong}}
                    self.assertEqual(outcome(function, **arguments(function, **mixed)), WRONG[wrong[0]][1])

    def test_not_full_is_ahead_of_no_rest(self):
        cases = {
            (1, 6, (6,)): errors.NoRest, (2, 6, (6,)): errors.NotFull, (2, 6, (6, 5)): errors.NotFull,
            (2, 6, (6, 3, 3)): errors.NoRest, (1, 6, (3, 2)): errors.NotFull, (3, 1, (1, 1, 1)): errors.NoRest,
            (3, 1, (1, 1)): errors.NotFull,
        }
        for (processors, period, shares), wanted in cases.items():
            load = (processors, period, list(shares))
            with self.subTest(load=load):
                self.assertEqual(outcome(loads.rest_load, load), [wanted, {}])

    def test_not_round_is_behind_the_parameters(self):
        for function in [plans.far_count, plans.far_tick, counting.plan_number]:
            names = SIGNATURES[function]
            for plan in [[], [[0, 1]], ROUND + [[0, 1]], [[0, 1]] * 4]:
                with self.subTest(function=function.__name__, plan=plan):
                    self.assertEqual(outcome(function, **arguments(function, plan=plan)), [errors.NotRound, {}])
                for wrong in choices([name for name in names if name != "plan"]):
                    with self.subTest(function=function.__name__, plan=plan, wrong=wrong):
                        values = arguments(function, plan=plan, **{name: WRONG[name][0] for name in wrong})
                        self.assertEqual(outcome(function, **values), WRONG[wrong[0]][1])


class JudgesOfValues(unittest.TestCase):
    def test_is_load(self):
        for value, _ in NO_LOADS:
            with self.subTest(value=value):
                self.assertIs(loads.is_load(value), False)

    def test_is_plan(self):
        for value, _ in NO_PLANS:
            with self.subTest(value=value):
                self.assertIs(plans.is_plan(FOUR, value), False)

    def test_is_plan_wants_a_load_for_any_value(self):
        for value in [*NO_LISTS, [], [[0]]]:
            with self.subTest(value=value):
                self.assertEqual(outcome(plans.is_plan, (1, 0, [1]), value), [errors.InvalidLoad, {"index": 1}])
