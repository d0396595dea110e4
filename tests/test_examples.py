"""The examples of the document, word for word."""

import unittest

from tests.helpers import run_examples

SHARED = """
>>> three, five, pair = (1, 6, [3, 2, 1]), (1, 10, [4, 5, 1]), (2, 3, [2, 2, 2])
>>> dull = (1, 8, [3, 3, 1, 1])
"""

LOADS = """
>>> from evenslices.loads import due_counts, is_full, is_load, rest_load, slices_at, window_of, windows_within
>>> [is_load(value) for value in [three, (1, 6, [3, 4]), (1, 6, [0, 1]), [1, 6, [1]]]]
[True, False, False, False]
>>> [is_full(five), is_full((1, 6, [3, 2])), due_counts(five, 0, 4), due_counts(three, 0, 4)]
[True, False, (1, 2), (2, 2)]
>>> [[window_of(five, 0, number) for number in range(4)], slices_at(five, 0, 2), slices_at(five, 0, 5), windows_within(five, 1, 4, 6)]
[[(0, 2), (2, 4), (5, 7), (7, 9)], [0, 1], [2], 1]
>>> [window_of(five, 0, 10 ** 18), rest_load(pair)]
[(2500000000000000000, 2500000000000000002), (1, 3, [1, 1, 1])]
"""

PLANS = """
>>> from evenslices.plans import counts_of, extreme_lags, far_count, far_tick, first_off, is_even, lag_numbers, rests_of
>>> plan = [[0], [1], [0], [2], [0], [1]]
>>> [counts_of(three, plan), lag_numbers(three, plan[:4]), extreme_lags(three, plan), is_even(three, plan)]
[[3, 2, 1], [0, 2, -2], (-3, 4), True]
>>> [first_off(three, [[2], [1], [0]]), rests_of(pair, [[0, 1], [0, 2], [1, 2]])]
[(2, 0), [[2], [1], [0]]]
>>> [far_count(three, plan, 1, 10 ** 20), far_tick(three, plan, 10 ** 20)]
[33333333333333333333, [0]]
"""

GROUPS = """
>>> from evenslices.groups import first_breach, group_bounds, group_plan, is_groups, slice_plan
>>> four = (2, 4, [2, 2, 2, 2])
>>> [group_bounds((2, 5, [3, 3, 2, 2]), [[0, 1], [2, 3], [0]]), is_groups(four, [[0, 1], [1, 2]])]
[[(1, 2), (0, 1), (0, 1)], False]
>>> [first_breach(four, [[0, 1], [2, 3]], [[0, 2], [0, 1]]), first_breach(four, [[0, 1], [2, 3]], group_plan(four, [[0, 1], [2, 3]]))]
[(1, 0), None]
>>> slice_plan(three, [], 2, 0, 4)[4]
[2]
"""

CASES = """
>>> from evenslices.cases import is_way, need_of, shows_stuck, stuck_ticks, way_of
>>> [way_of(three, 0, [0, 0, 0], [1, 0, 1], []), way_of(three, 0, [0, 0, 0], [0, 1, 1], [(1, 0)]), way_of(dull, 2, [0, 0, 1, 1], [1], [])]
[[[0], [], [1]], None, None]
>>> [[need_of(dull, 2, [0, 0, 1, 1], [1], [], process, [2]) for process in range(4)], shows_stuck(dull, 2, [0, 0, 1, 1], [1], [], [2])]
[[1, 1, 0, 0], True]
>>> [stuck_ticks(three, 0, [0, 0, 0], [0, 1, 1], [(1, 0)]) is None, shows_stuck(three, 0, [0, 0, 0], [1, 1], [(0, 0), (1, 0)], [])]
[False, True]
>>> is_way(three, 0, [0, 0, 0], [1, 0, 1], [], [[0], [], [1]])
True
"""

STATES = """
>>> from evenslices.states import can_be_reached, can_go_on, doomed_by, is_state, states_at, too_many_since
>>> [can_go_on(dull, 2, [0, 0, 1, 1]), can_be_reached(dull, 2, [0, 0, 1, 1]), doomed_by(dull, 2, [0, 0, 1, 1]), states_at(three, 2)]
[False, True, 3, [[1, 0, 1], [1, 1, 0]]]
>>> [too_many_since(dull, 6, [3, 3, 0, 0]), is_state(three, 6 * 10 ** 20 + 2, [3 * 10 ** 20 + 1, 2 * 10 ** 20, 10 ** 20 + 1])]
[5, True]
"""

ROWS = """
>>> from evenslices.rows import early_plan, early_tick, filled, full_stretch, straight_plan, straight_tick
>>> [[early_tick(five, 0, number) for number in range(4)], [straight_tick(five, 0, 5, number) for number in range(4)]]
[[0, 2, 5, 7], [1, 3, 6, 8]]
>>> [straight_tick(five, 0, 0, 10 ** 20), straight_tick((1, 10 ** 29, [7]), 0, 3, 10 ** 20)]
[250000000000000000002, 1428571428571428571442857142857142857142857142856]
>>> [full_stretch(five, 0, [0, 4, 5, 7]), filled(five, 0, [0, 4, 5, 7]), full_stretch(five, 0, [2, 4, 7, 9])]
[(4, 6), None, None]
>>> [tick for tick, row in enumerate(early_plan(five, 0)) if row == [0]]
[0, 2, 5, 7]
"""

COUNTING = """
>>> from evenslices.counting import count_plans, count_states, count_two, count_with, least_pairs, least_plan, most_pairs, nth_plan, plan_number, window_lengths
>>> [count_plans(load) for load in [three, pair, (1, 5, [2, 3]), (1, 4, [1, 1, 1, 1]), (1, 4, [2, 2])]]
[16, 6, 8, 24, 4]
>>> [least_plan(three), plan_number(three, [[0], [1], [0], [1], [0], [2]]), nth_plan(three, 15)[:2]]
[[[0], [1], [0], [1], [0], [2]], 0, [[2], [0]]]
>>> [count_with(three, 2, 0, 0), count_states(three, 2), most_pairs(pair, [], [(0, 0), (0, 1)]), least_pairs(pair, [], [(0, 0), (0, 1)])]
[2, 2, 2, 1]
>>> [count_two(part, period) for part, period in [(3, 8), (3, 7), (2, 4), (1, 9)]] + [window_lengths(3, 8)]
[30, 21, 4, 9, [3, 4, 3]]
"""

CHANGES = """
>>> from evenslices.changes import can_change, failing_moment, newcomer_share, plan_on
>>> [failing_moment(8, [6, 6, -6, -6], 8, [3, 3, 1, 1]), can_change(2, [1, -1], 3, [1, 2]), can_change(2, [1, 1], 2, [1, 1])]
[1, True, False]
>>> [newcomer_share(1, [0, 0], 6, [2, 3]), newcomer_share(8, [6], 8, [3]), newcomer_share(2, [1, 1], 2, [1, 1])]
[1, 5, None]
>>> plan_on(2, [1, -1], 3, [3, 0], 3)
[[0], [0], [0]]
"""

LIMITS = """
>>> from evenslices.limits import least_limit, limit_plan, limit_ticks, limit_window, shows_limit
>>> [least_limit(load) for load in [(1, 5, [2, 3]), (1, 4, [1, 1, 1, 1]), pair, three]]
[2, 3, 2, 3]
>>> [limit_plan((1, 5, [2, 3]), 2), limit_window((1, 5, [2, 3]), 0, 1, 2), limit_window((1, 5, [2, 3]), 0, 0, 1)]
[[[1], [0], [1], [0], [1]], (3, 3), (1, 0)]
>>> [limit_plan((1, 5, [2, 3]), 1), shows_limit((1, 5, [2, 3]), 1, []), shows_limit((1, 5, [2, 3]), 2, [0])]
[None, True, False]
"""

SEEN = """
>>> from evenslices.seen import can_be, fit_together, least_period, share_ends, shares_for
>>> seen = [[0], [1], [0]]
>>> [share_ends(1, 2, seen), least_period(1, 2, seen, 9), shares_for(1, 2, seen, 9)]
[[((1, 3), (1, 1)), ((0, 1), (2, 3))], 2, [1, 1]]
>>> [can_be(1, 2, [[0], [0], [1], [1], [1], [1]]), can_be(1, 1, [[0], [0]]), can_be(1, 1, [[0], []])]
[False, True, False]
>>> [fit_together(1, 2, [[0], [0], [1]], [[1], [1], [0]]), fit_together(1, 2, seen, [[1], [0]]), least_period(1, 2, [[0], [0], [1]], 9)]
[False, True, 3]
"""

RULES = """
>>> from evenslices.rules import rule_lags, rule_off, rule_plan
>>> [rule_plan(three, "first end", 6), rule_plan((1, 4, [1, 1]), "first end", 4)]
[[[0], [1], [0], [1], [0], [2]], [[0], [1], [], []]]
>>> late = (1, 6, [1, 1, 1, 3])
>>> [rule_plan(late, "without waiting", 6), rule_off(late, "without waiting"), rule_lags(late, "without waiting")]
[[[3], [3], [0], [1], [2], [3]], (2, 3), (-6, 4)]
>>> [rule_plan(three, "most behind", 6), rule_off(three, "most behind")]
[[[0], [1], [0], [2], [1], [0]], None]
"""

DISPATCHERS = """
>>> from evenslices.dispatchers import Dispatcher, RestingDispatcher, SureDispatcher
>>> desk = Dispatcher(three)
>>> [[desk.tick() for turn in range(3)], desk.moment, desk.counts, desk.lags, desk.log]
[[0, 1, 0], 3, [2, 1, 0], [-3, 0, 3], [('give', 0), ('give', 1), ('give', 0)]]
>>> [desk.give(2), desk.undo(), len(desk), desk.described(), desk.doomed, desk == desk.twin()]
[None, None, 3, ['moment 3', 'ran 0'], None, True]
>>> loose = Dispatcher(dull)
>>> [loose.give(2), loose.give(3), loose.doomed, loose.counts]
[None, None, 3, [0, 0, 1, 1]]
>>> resting = RestingDispatcher((1, 4, [3, 1]), 2)
>>> [[resting.tick() for turn in range(4)], resting.described(), resting.most]
[[0, 0, 1, 0], ['moment 4', 'ran 0', 'row 1'], 2]
>>> sure = SureDispatcher(dull)
>>> sure.give(2)
>>> sure.give(3)
raises Doomed(by=3)
"""

TEXTS = """
>>> from evenslices.texts import format_load, format_plan, parse_load, parse_plan
>>> [format_load(pair), format_plan(pair, [[0, 1], [], [2]]), parse_load("1 6: 3 2 1"), parse_plan(pair, "0+2 - 1"), parse_plan(pair, "")]
['2 3: 2 2 2', '0+1 - 2', (1, 6, [3, 2, 1]), [[0, 2], [], [1]], []]
>>> parse_load("1 6: 3 2 2")
raises InvalidSyntax(word=4)
>>> parse_load("1 6:")
raises InvalidSyntax(word=2)
"""

CONSOLE = """
>>> from evenslices.console import Console
>>> console = Console()
>>> [console.execute(command) for command in ["load 1 6: 3 2 1", "run 4", "state", "counts", "lags", "undo", "give 2", "doomed", "off 2 1 0"]]
['ok', '0 1 0 1', 'moment 4, ran 1', '2 2 0', '0 -4 4', 'ok', 'ok', 'none', '2 0']
>>> [console.execute("run 2"), console.execute("shares 2 2 2")]
['0 1', 'ok']
>>> console.execute("load 2 3: 2 2 2")
raises NotSingle
"""


class Examples(unittest.TestCase):
    def test_examples(self):
        names = {}
        for text in [
            SHARED, LOADS, PLANS, GROUPS, CASES, STATES, ROWS, COUNTING, CHANGES, LIMITS, SEEN, RULES, DISPATCHERS,
            TEXTS, CONSOLE,
        ]:
            run_examples(self, names, text)
