"""The functions of the package, with the names of their parameters, and right and wrong values for these."""

import copy

from evenslices import (
    cases, changes, console, counting, dispatchers, errors, groups, limits, loads, plans, rows, rules, seen, states,
    texts,
)

FOUR = (2, 4, [2, 2, 2, 2])
DULL = (1, 8, [3, 3, 1, 1])
ROUND = [[0, 1], [2, 3], [0, 2], [1, 3]]

RIGHT = {
    "load": FOUR, "process": 3, "moment": 5, "number": 6, "tick": 7, "begin": 1, "end": 9, "plan": ROUND, "value": None,
    "groups": [[0, 1], [2, 3], [3]], "counts": [1, 1, 0, 0], "caps": [2, 2, 1], "asleep": [(2, 0)], "ticks": [1, 3],
    "shift": 7, "pairs": [(0, 0), (0, 3), (2, 1)], "limit": 3, "part": 3, "period": 8, "base": 8, "lags": [6, -6, 1],
    "shares": [4, 2, 1], "many": 3, "processors": 2, "seen": [[0, 1], [2]], "one": [[0, 1], [2]], "other": [[1, 2]],
    "most": 9, "rule": "first end", "text": "2 4: 2 2 2 2", "command": "state",
}

# right values for functions that want other ones
OTHER = {
    **{function: {"number": 1, "tick": 2} for function in [
        groups.slice_plan, counting.count_with, limits.limit_window,
    ]},
    **{function: {"load": DULL, "counts": [2, 2, 1, 0]} for function in [
        states.can_go_on, states.can_be_reached, states.is_state, states.doomed_by, states.too_many_since,
        states.states_at,
    ]},
    **{function: {"load": DULL, "ticks": [4]} for function in [
        rows.early_tick, rows.straight_tick, rows.early_plan, rows.straight_plan, rows.filled, rows.full_stretch,
    ]},
    **{function: {"load": DULL, "rule": "most behind"} for function in [
        rules.rule_plan, rules.rule_off, rules.rule_lags, dispatchers.Dispatcher, dispatchers.SureDispatcher,
        dispatchers.RestingDispatcher, dispatchers.SureRestingDispatcher,
    ]},
    texts.parse_plan: {"text": "0+1 - 3"},
}

# values with which the functions for one processor are called with a load for two
TWO_PROCESSORS = {"load": (2, 4, [3, 2, 2, 1]), "moment": 1, "counts": [1, 0, 1, 0], "ticks": [3], "shift": 3}

# parameters that are numbers
NUMBERS = [
    "moment", "number", "tick", "begin", "end", "shift", "limit", "many", "most", "part", "period", "base",
    "processors",
]

# a wrong value for each parameter that can be wrong, with the error
WRONG = {
    "load": ((1, 6, [0]), [errors.InvalidLoad, {"index": 2}]),
    "process": (4, [errors.InvalidProcess, {}]),
    "plan": ([[0], [4]], [errors.InvalidPlan, {"index": 1}]),
    "groups": ([[0, 1], [1, 2]], [errors.InvalidGroups, {"index": 1}]),
    "counts": ([1, 1, 99, 0], [errors.InvalidCounts, {"index": 2}]),
    "caps": ([2, 3, 1], [errors.InvalidCaps, {"index": 1}]),
    "asleep": ([(2, 0), (2, 4)], [errors.InvalidAsleep, {"index": 1}]),
    "ticks": ([99], [errors.InvalidTicks, {"index": 0}]),
    "pairs": ([(0, 0), (0, 0)], [errors.InvalidPairs, {"index": 1}]),
    "lags": ([1, 2, 8], [errors.InvalidLags, {"index": 2}]),
    "shares": ([4, 5, 0], [errors.InvalidShares, {"index": 1}]),
    **{name: ([[0], [], [9]], [errors.InvalidSeen, {"index": 2}]) for name in ["seen", "one", "other"]},
    "rule": ("first", [errors.InvalidRule, {}]),
    "text": (" ", [errors.InvalidSyntax, {"word": 0}]),
    "command": ("states", [errors.InvalidCommand, {}]),
    **{name: (-1, [errors.InvalidNumber, {}]) for name in NUMBERS},
}

CASE = ["load", "begin", "counts", "caps", "asleep"]
CHANGE = ["base", "lags", "period", "shares"]
SIGHT = ["processors", "many", "seen"]

SIGNATURES = {
    loads.is_load: ["value"],
    loads.is_full: ["load"],
    loads.due_counts: ["load", "process", "moment"],
    loads.window_of: ["load", "process", "number"],
    loads.slices_at: ["load", "process", "tick"],
    loads.windows_within: ["load", "process", "begin", "end"],
    loads.rest_load: ["load"],
    plans.is_plan: ["load", "value"],
    plans.counts_of: ["load", "plan"],
    plans.lag_numbers: ["load", "plan"],
    plans.first_off: ["load", "plan"],
    plans.is_even: ["load", "plan"],
    plans.extreme_lags: ["load", "plan"],
    plans.rests_of: ["load", "plan"],
    plans.far_count: ["load", "plan", "process", "moment"],
    plans.far_tick: ["load", "plan", "tick"],
    groups.is_groups: ["load", "value"],
    groups.group_bounds: ["load", "groups"],
    groups.first_breach: ["load", "groups", "plan"],
    groups.group_plan: ["load", "groups"],
    groups.slice_plan: ["load", "groups", "process", "number", "tick"],
    cases.is_way: [*CASE, "value"],
    cases.way_of: CASE,
    cases.need_of: [*CASE, "process", "ticks"],
    cases.stuck_ticks: CASE,
    cases.shows_stuck: [*CASE, "value"],
    states.can_go_on: ["load", "moment", "counts"],
    states.can_be_reached: ["load", "moment", "counts"],
    states.is_state: ["load", "moment", "counts"],
    states.doomed_by: ["load", "moment", "counts"],
    states.too_many_since: ["load", "moment", "counts"],
    states.states_at: ["load", "moment"],
    rows.early_tick: ["load", "process", "number"],
    rows.straight_tick: ["load", "process", "shift", "number"],
    rows.early_plan: ["load", "process"],
    rows.straight_plan: ["load", "process", "shift"],
    rows.filled: ["load", "process", "ticks"],
    rows.full_stretch: ["load", "process", "ticks"],
    counting.count_plans: ["load"],
    counting.least_plan: ["load"],
    counting.nth_plan: ["load", "number"],
    counting.plan_number: ["load", "plan"],
    counting.count_with: ["load", "process", "number", "tick"],
    counting.count_states: ["load", "moment"],
    counting.most_pairs: ["load", "groups", "pairs"],
    counting.least_pairs: ["load", "groups", "pairs"],
    counting.window_lengths: ["part", "period"],
    counting.count_two: ["part", "period"],
    changes.failing_moment: CHANGE,
    changes.can_change: CHANGE,
    changes.newcomer_share: CHANGE,
    changes.plan_on: [*CHANGE, "many"],
    limits.limit_window: ["load", "process", "number", "limit"],
    limits.limit_plan: ["load", "limit"],
    limits.least_limit: ["load"],
    limits.limit_ticks: ["load", "limit"],
    limits.shows_limit: ["load", "limit", "value"],
    seen.share_ends: SIGHT,
    seen.can_be: SIGHT,
    seen.least_period: [*SIGHT, "most"],
    seen.shares_for: [*SIGHT, "most"],
    seen.fit_together: ["processors", "many", "one", "other"],
    rules.rule_plan: ["load", "rule", "many"],
    rules.rule_off: ["load", "rule"],
    rules.rule_lags: ["load", "rule"],
    dispatchers.Dispatcher: ["load"],
    dispatchers.SureDispatcher: ["load"],
    dispatchers.RestingDispatcher: ["load", "most"],
    dispatchers.SureRestingDispatcher: ["load", "most"],
    texts.format_load: ["load"],
    texts.format_plan: ["load", "plan"],
    texts.parse_load: ["text"],
    texts.parse_plan: ["load", "text"],
    console.Console().execute: ["command"],
}

SINGLE = [function for function in SIGNATURES if OTHER.get(function, {}).get("load") == DULL]


def arguments(function, **other):
    """Return right values for a function, other ones where they are given."""
    right = {**RIGHT, **OTHER.get(function, {}), **other}
    return {name: copy.deepcopy(right[name]) for name in SIGNATURES[function]}


def lists_in(value):
    """Return all lists within a value, itself included."""
    inner = [found for part in value for found in lists_in(part)] if isinstance(value, (list, tuple)) else []
    return ([value] if isinstance(value, list) else []) + inner
