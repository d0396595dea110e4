"""Point 21, with the definition of point 11."""

import unittest
from itertools import product
from random import Random

from evenslices import errors
from evenslices.states import can_be_reached, can_go_on, doomed_by, is_state, states_at, too_many_since
from tests.helpers import BIG, drawn_load, due_ends, outcome, small_loads

DULL = (1, 8, [3, 3, 1, 1])

LOADS = [
    *small_loads(1, 4, 3), *small_loads(1, 6, 2), DULL, (1, 6, [3, 2, 1]), (1, 6, [1, 1, 1, 3]), (1, 8, [3, 2, 1, 1]),
    (1, 7, [2, 2, 1]), (1, 7, [2, 2, 2, 1]), (1, 10, [4, 5, 1]), (1, 5, [1, 1, 1, 1, 1]), (1, 9, [5, 1, 1]),
    (1, 6, [2, 1, 1, 1]),
]


def due_lists(load, moment):
    """Return all lists of counts of which each one is its due rounded down or up, ascending."""
    return [list(counts) for counts in product(*[sorted(set(due_ends(share, load[1], moment))) for share in load[2]])]


def next_counts(load, moment, counts):
    """Return all counts to which one tick more leads, at the next moment."""
    ends = [due_ends(share, load[1], moment + 1) for share in load[2]]
    found = []
    for runs in [None, *range(len(counts))]:
        told = [count + (process == runs) for process, count in enumerate(counts)]
        if all(least <= count <= most for count, (least, most) in zip(told, ends)):
            found.append(told)
    return found


def all_reached(load, moment):
    """Return for each moment up to this one all counts that even plans have, by going along with all of them."""
    rows = [[[0] * len(load[2])]]
    for at in range(moment):
        rows.append(sorted({tuple(told) for counts in rows[-1] for told in next_counts(load, at, counts)}))
        rows[-1] = [list(counts) for counts in rows[-1]]
    return rows


def all_that_go_on(load):
    """Return for each moment of a round all counts from which some plan goes on for ever, by dropping dead ends."""
    _, period, shares = load
    rows = [due_lists(load, moment) for moment in range(period + 1)]
    changed = True
    while changed:
        changed = False
        # one round later all counts are greater by the shares
        for at in reversed(range(period)):
            after = rows[at + 1]
            kept = [counts for counts in rows[at] if any(told in after for told in next_counts(load, at, counts))]
            changed = changed or kept != rows[at]
            rows[at] = kept
        rows[period] = [[count + share for count, share in zip(counts, shares)] for counts in rows[0]]
    return rows


def plain_doom(load, moment, counts):
    """Return the moment by which counts are doomed, by the sums of point 11."""
    _, period, shares = load
    for end in range(moment + 1, moment + period + 1):
        if sum(max(0, share * end // period - count) for share, count in zip(shares, counts)) > end - moment:
            return end
    return None


def plain_crowd(load, moment, counts):
    """Return the greatest moment since which there are too many slices, by the sums of point 11."""
    _, period, shares = load
    for begin in reversed(range(max(0, moment - period), moment)):
        ahead = [due_ends(share, period, begin)[1] for share in shares]
        if sum(max(0, count - other) for count, other in zip(counts, ahead)) > moment - begin:
            return begin
    return None


class AllSmallRounds(unittest.TestCase):
    def test_against_all_plans(self):
        for load in LOADS:
            _, period, shares = load
            reached, lasting = all_reached(load, 2 * period + 1), all_that_go_on(load)
            for moment in range(2 * period + 2):
                rounds, rest = divmod(moment, period)
                added = [rounds * share for share in shares]
                alive = [[count + more for count, more in zip(counts, added)] for counts in lasting[rest]]
                for counts in due_lists(load, moment):
                    with self.subTest(load=load, moment=moment, counts=counts):
                        self.check(load, moment, counts, counts in alive, counts in reached[moment])
                with self.subTest(load=load, moment=moment):
                    states = [counts for counts in alive if counts in reached[moment]]
                    self.assertEqual(states_at(load, moment), sorted(states))

    def check(self, load, moment, counts, lasts, comes):
        self.assertIs(can_go_on(load, moment, counts), lasts)
        self.assertIs(can_be_reached(load, moment, counts), comes)
        self.assertIs(is_state(load, moment, counts), lasts and comes)
        self.assertEqual(doomed_by(load, moment, counts), plain_doom(load, moment, counts))
        self.assertEqual(too_many_since(load, moment, counts), plain_crowd(load, moment, counts))

    def test_no_plan_goes_beyond_the_moment_of_doom(self):
        told = 0
        for load in LOADS:
            for moment in range(load[1]):
                for counts in due_lists(load, moment):
                    doom = doomed_by(load, moment, counts)
                    if doom is not None:
                        rows = [counts]
                        for at in range(moment, doom):
                            self.assertTrue(rows)
                            rows = [after for ahead in rows for after in next_counts(load, at, ahead)]
                        self.assertEqual(rows, [])
                        told += 1
        self.assertGreater(told, 30)


class FarMoments(unittest.TestCase):
    def test_rounds_later_all_is_the_same(self):
        for load in LOADS:
            _, period, shares = load
            for rounds in [1, 3, 10 ** 28]:
                for moment in range(period, 2 * period):
                    far = moment + rounds * period
                    for counts in due_lists(load, moment):
                        moved = [count + rounds * share for count, share in zip(counts, shares)]
                        doom, crowd = plain_doom(load, moment, counts), plain_crowd(load, moment, counts)
                        with self.subTest(load=load, moment=far, counts=moved):
                            told = [doomed_by(load, far, moved), too_many_since(load, far, moved)]
                            wanted = [None if value is None else value + rounds * period for value in [doom, crowd]]
                            self.assertEqual(told, wanted)
                            self.assertIs(is_state(load, far, moved), wanted == [None, None])

    def test_drawn_loads(self):
        draw = Random(21)
        for _ in range(400):
            load = drawn_load(draw, 1, 60, 8)
            moment = draw.choice([draw.randint(0, 200), draw.randint(0, 10 ** 29)])
            counts = [draw.choice(due_ends(share, load[1], moment)) for share in load[2]]
            with self.subTest(load=load, moment=moment, counts=counts):
                doom, crowd = plain_doom(load, moment, counts), plain_crowd(load, moment, counts)
                self.assertEqual(doomed_by(load, moment, counts), doom)
                self.assertEqual(too_many_since(load, moment, counts), crowd)
                self.assertIs(can_go_on(load, moment, counts), doom is None)
                self.assertIs(can_be_reached(load, moment, counts), crowd is None)
                self.assertIs(is_state(load, moment, counts), doom is None and crowd is None)

    def test_longest_periods(self):
        shares = [1000, 700, 500, 300, 200, 100, 80, 60, 30, 20, 9, 1]
        for load in [(1, 3000, shares), (1, 3000, shares[:11]), (1, 3000, [2999, 1]), (1, 2999, [1] * 12)]:
            for moment in [0, 1, 1234, 2999, 3000, 10 ** 29 + 7]:
                for side in [0, 1]:
                    counts = [due_ends(share, load[1], moment)[side] for share in load[2]]
                    with self.subTest(load=load, moment=moment, counts=counts):
                        self.assertEqual(doomed_by(load, moment, counts), plain_doom(load, moment, counts))
                        self.assertEqual(too_many_since(load, moment, counts), plain_crowd(load, moment, counts))


class Edges(unittest.TestCase):
    def test_at_the_beginning(self):
        self.assertEqual(states_at(DULL, 0), [[0, 0, 0, 0]])
        self.assertIs(is_state(DULL, 0, [0, 0, 0, 0]), True)
        self.assertIsNone(too_many_since(DULL, 0, [0, 0, 0, 0]))
        self.assertEqual(outcome(is_state, DULL, 0, [0, 0, 0, 1]), [errors.InvalidCounts, {"index": 3}])

    def test_at_the_end_of_a_round(self):
        for rounds in [1, 2, 10 ** 28]:
            counts = [3 * rounds, 3 * rounds, rounds, rounds]
            self.assertEqual(states_at(DULL, 8 * rounds), [counts])
            self.assertIsNone(doomed_by(DULL, 8 * rounds, counts))
            self.assertIsNone(too_many_since(DULL, 8 * rounds, counts))

    def test_more_slices_than_ticks(self):
        load = (1, 2, [1, 1])
        for moment in [1, 3, 5]:
            most = [(moment + 1) // 2] * 2
            self.assertIs(can_be_reached(load, moment, most), False)
            self.assertIs(can_go_on(load, moment, most), True)
            self.assertEqual(too_many_since(load, moment, most), moment - 1)

    def test_period_1(self):
        self.assertEqual(states_at((1, 1, [1]), BIG), [[BIG]])
        self.assertIs(is_state((1, 1, [1]), BIG, [BIG]), True)

    def test_ascending(self):
        draw = Random(200)
        for _ in range(10):
            load = drawn_load(draw, 1, 200, 8)
            moment = draw.randint(0, 10 ** 29)
            with self.subTest(load=load, moment=moment):
                wanted = [counts for counts in due_lists(load, moment) if is_state(load, moment, counts)]
                self.assertEqual(states_at(load, moment), wanted)
                self.assertEqual(wanted, sorted(wanted))
                self.assertTrue(wanted)

    def test_largest_list_of_states(self):
        load = (1, 200, [25] * 8)
        self.assertEqual(len(states_at(load, 4)), 70)
        self.assertEqual(len(states_at((1, 200, [1] * 8), 100)), 256)

    def test_long_periods_are_no_errors(self):
        self.assertEqual([doomed_by((1, 4000, [2000, 2000]), 1, [0, end]) for end in [0, 1]], [2, None])
        self.assertEqual(states_at((1, 400, [200, 200]), 1), [[0, 1], [1, 0]])
