"""Points 2 and 3: parameters, the order of errors, and what is done with arguments."""

import copy
import inspect
import unittest

from evenslices import errors, loads, plans
from tests.helpers import BIG, NO_LISTS, NO_LOADS, NO_NUMBERS, NO_PLANS, choices, outcome

FOUR = (2, 4, [2, 2, 2, 2])
ROUND = [[0, 1], [2, 3], [0, 2], [1, 3]]

RIGHT = {
    "load": FOUR, "process": 3, "moment": 5, "number": 6, "tick": 7, "begin": 1, "end": 9, "plan": ROUND, "value": None,
}

# a wrong value for each parameter that can be wrong, with the error
WRONG = {
    "load": ((1, 6, [0]), [errors.InvalidLoad, {"index": 2}]),
    "process": (4, [errors.InvalidProcess, {}]),
    "plan": ([[0], [4]], [errors.InvalidPlan, {"index": 1}]),
    **{name: (-1, [errors.InvalidNumber, {}]) for name in ["moment", "number", "tick", "begin", "end"]},
}

SIGNATURES = {
    loads.is_load: ["value"],
    loads.is_full: ["load"],
    loads.due_counts: ["load", "process", "moment"],
    loads.window_of: ["load", "process", "number"],
    loads.slices_at: ["load", "process", "tick"],
    loads.windows_within: ["load", "process", "begin", "end"],
    loads.rest_load: ["load"],
    plans.is_plan: ["load", "value"],
    plans.counts_of: ["load", "plan"],
    plans.lag_numbers: ["load", "plan"],
    plans.first_off: ["load", "plan"],
    plans.is_even: ["load", "plan"],
    plans.extreme_lags: ["load", "plan"],
    plans.rests_of: ["load", "plan"],
    plans.far_count: ["load", "plan", "process", "moment"],
    plans.far_tick: ["load", "plan", "tick"],
}


def arguments(names, **other):
    """Return right values for the names, other ones where they are given."""
    return {name: copy.deepcopy(other.get(name, RIGHT[name])) for name in names}


class Interface(unittest.TestCase):
    def test_names_of_parameters(self):
        for function, names in SIGNATURES.items():
            with self.subTest(function=function.__name__):
                self.assertEqual(list(inspect.signature(function).parameters), names)

    def test_by_position_and_by_name(self):
        for function, names in SIGNATURES.items():
            with self.subTest(function=function.__name__):
                values = arguments(names)
                self.assertEqual(function(*values.values()), function(**values))

    def test_equal_results_and_arguments_as_they_were(self):
        for function, names in SIGNATURES.items():
            with self.subTest(function=function.__name__):
                values = arguments(names)
                first = function(**values)
                self.assertEqual(function(**values), first)
                self.assertEqual(function(**arguments(names)), first)
                self.assertEqual(values, arguments(names))

    def test_arguments_as_they_were_behind_an_error(self):
        for function, names in SIGNATURES.items():
            for wrong in [name for name in names if name in WRONG]:
                with self.subTest(function=function.__name__, wrong=wrong):
                    values = arguments(names, **{wrong: WRONG[wrong][0]})
                    outcome(function, **values)
                    self.assertEqual(values, arguments(names, **{wrong: WRONG[wrong][0]}))


class NewLists(unittest.TestCase):
    def test_lists_can_be_changed_without_harm(self):
        for function in [plans.counts_of, plans.lag_numbers, plans.rests_of]:
            with self.subTest(function=function.__name__):
                plan, load = copy.deepcopy(ROUND), copy.deepcopy(FOUR)
                told = function(load, plan)
                kept = copy.deepcopy(told)
                for part in [part for part in told if isinstance(part, list)] + [told]:
                    part.append(99)
                self.assertEqual([load, plan, function(load, plan)], [FOUR, ROUND, kept])

    def test_inner_lists_are_new_and_different(self):
        plan = [[0]] * 3
        rests = plans.rests_of((2, 3, [2, 2, 2]), plan)
        rests[0].append(99)
        self.assertEqual([rests[1:], plan], [[[1, 2], [1, 2]], [[0]] * 3])

    def test_far_tick(self):
        plan = copy.deepcopy(ROUND)
        told = plans.far_tick(FOUR, plan, 4)
        told.append(99)
        self.assertEqual([plan, plans.far_tick(FOUR, plan, 4)], [ROUND, [0, 1]])

    def test_slices_at(self):
        told = loads.slices_at(FOUR, 0, 1)
        told.append(99)
        self.assertEqual(loads.slices_at(FOUR, 0, 1), [0])

    def test_rest_load(self):
        load = (1, 2, [1, 1])
        told = loads.rest_load(load)
        self.assertEqual(told, load)
        told[2].append(99)
        self.assertEqual([load, loads.rest_load(load)], [(1, 2, [1, 1]), (1, 2, [1, 1])])


class WrongParameters(unittest.TestCase):
    def check(self, parameter, value, wanted):
        for function, names in SIGNATURES.items():
            if parameter not in names:
                continue
            with self.subTest(function=function.__name__, parameter=parameter, value=value):
                values = arguments(names)
                values[parameter] = value
                self.assertEqual(outcome(function, **values), wanted)
                self.assertEqual(outcome(function, *values.values()), wanted)

    def test_load(self):
        for value, index in NO_LOADS:
            self.check("load", value, [errors.InvalidLoad, {"index": index}])

    def test_process(self):
        for value in [*NO_NUMBERS, 4, 5, 12, BIG, 10 ** 40]:
            self.check("process", value, [errors.InvalidProcess, {}])

    def test_plan(self):
        for value, index in NO_PLANS:
            self.check("plan", value, [errors.InvalidPlan, {"index": index}])

    def test_numbers(self):
        for parameter in ["moment", "number", "tick", "begin", "end"]:
            for value in NO_NUMBERS:
                self.check(parameter, value, [errors.InvalidNumber, {}])

    def test_very_long_integers(self):
        self.check("process", 10 ** 5000, [errors.InvalidProcess, {}])
        self.check("moment", -10 ** 5000, [errors.InvalidNumber, {}])
        self.check("load", (10 ** 5000, 1, [1]), [errors.InvalidLoad, {"index": 0}])

    def test_the_first_wrong_parameter_counts(self):
        for function, names in SIGNATURES.items():
            for wrong in choices([name for name in names if name in WRONG]):
                with self.subTest(function=function.__name__, wrong=wrong):
                    values = arguments(names, **{name: WRONG[name][0] for name in wrong})
                    self.assertEqual(outcome(function, **values), WRONG[wrong[0]][1])

    def test_the_first_wrong_item_of_a_load_counts(self):
        self.assertEqual(outcome(loads.is_full, (0, 0, [])), [errors.InvalidLoad, {"index": 0}])
        self.assertEqual(outcome(loads.is_full, (1, 0, [])), [errors.InvalidLoad, {"index": 1}])
        self.assertEqual(outcome(loads.is_full, (0, 6, [7])), [errors.InvalidLoad, {"index": 0}])

    def test_the_first_wrong_tick_of_a_plan_counts(self):
        plan = [[0], [1, 0], [4], None]
        self.assertEqual(outcome(plans.counts_of, FOUR, plan), [errors.InvalidPlan, {"index": 1}])

    def test_limits_of_a_plan_depend_on_the_load(self):
        self.assertEqual(outcome(plans.counts_of, (1, 4, [2, 2]), [[0, 1]]), [errors.InvalidPlan, {"index": 0}])
        self.assertEqual(outcome(plans.counts_of, (1, 4, [2, 2]), [[0], [2]]), [errors.InvalidPlan, {"index": 1}])
        self.assertEqual(plans.counts_of((2, 4, [2, 2, 1]), [[0, 1], [2]]), [1, 1, 1])

    def test_long_numbers_are_no_errors(self):
        for number in [BIG, 10 ** 40]:
            self.assertEqual(loads.due_counts(FOUR, 0, 4 * number), (2 * number, 2 * number))
            self.assertEqual(plans.far_tick(FOUR, ROUND, 4 * number + 1), [2, 3])


class OrderBehindParameters(unittest.TestCase):
    def test_not_full_is_ahead_of_no_rest(self):
        cases = {
            (1, 6, (6,)): errors.NoRest, (2, 6, (6,)): errors.NotFull, (2, 6, (6, 5)): errors.NotFull,
            (2, 6, (6, 3, 3)): errors.NoRest, (1, 6, (3, 2)): errors.NotFull, (3, 1, (1, 1, 1)): errors.NoRest,
            (3, 1, (1, 1)): errors.NotFull,
        }
        for (processors, period, shares), wanted in cases.items():
            load = (processors, period, list(shares))
            with self.subTest(load=load):
                self.assertEqual(outcome(loads.rest_load, load), [wanted, {}])

    def test_not_round_is_behind_the_parameters(self):
        for function in [plans.far_count, plans.far_tick]:
            names = SIGNATURES[function]
            for plan in [[], [[0, 1]], ROUND + [[0, 1]], [[0, 1]] * 4]:
                with self.subTest(function=function.__name__, plan=plan):
                    self.assertEqual(outcome(function, **arguments(names, plan=plan)), [errors.NotRound, {}])
                for wrong in choices([name for name in names if name != "plan"]):
                    with self.subTest(function=function.__name__, plan=plan, wrong=wrong):
                        values = arguments(names, plan=plan, **{name: WRONG[name][0] for name in wrong})
                        self.assertEqual(outcome(function, **values), WRONG[wrong[0]][1])


class JudgesOfValues(unittest.TestCase):
    def test_is_load(self):
        for value, _ in NO_LOADS:
            with self.subTest(value=value):
                self.assertIs(loads.is_load(value), False)

    def test_is_plan(self):
        for value, _ in NO_PLANS:
            with self.subTest(value=value):
                self.assertIs(plans.is_plan(FOUR, value), False)

    def test_is_plan_wants_a_load_for_any_value(self):
        for value in [*NO_LISTS, [], [[0]]]:
            with self.subTest(value=value):
                self.assertEqual(outcome(plans.is_plan, (1, 0, [1]), value), [errors.InvalidLoad, {"index": 1}])
