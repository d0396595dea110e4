"""Points 19 and 20, with the definition of point 10."""

import unittest
from itertools import combinations, product
from random import Random

from evenslices import errors
from evenslices.cases import is_way, need_of, shows_stuck, stuck_ticks, way_of
from tests.helpers import BIG, NO_LISTS, NO_NUMBERS, drawn_load, due_ends, outcome

LOADS = [
    (1, 6, [3, 2, 1]), (2, 3, [2, 2, 2]), (1, 8, [3, 3, 1, 1]), (2, 5, [3, 4, 2]), (1, 4, [2, 1]), (1, 1, [1]),
    (2, 4, [4, 1, 1]), (3, 7, [6, 5, 5]), (2, 9, [2, 7]), (1, 3, [3]), (1, 10, [4, 5, 1]), (3, 5, [1, 2]),
]

THREE = (1, 6, [3, 2, 1])
PAIR = (2, 3, [2, 2, 2])


def plain_window(load, process, number):
    """Return the first and the last tick of a window, as point 7 tells them."""
    _, period, shares = load
    return due_ends(period, shares[process], number)[0], due_ends(period, shares[process], number + 1)[1] - 1


def is_plain_way(load, begin, counts, caps, asleep, way):
    """Return whether a list of ticks is a way, slice by slice, as point 10 tells it."""
    end = begin + len(caps)
    if len(way) != len(caps) or any(len(row) > cap for row, cap in zip(way, caps)):
        return False
    if any(process in way[tick - begin] for tick, process in asleep):
        return False
    for process, count in enumerate(counts):
        number = count
        for tick, row in enumerate(way, begin):
            if process in row:
                first, last = plain_window(load, process, number)
                if not first <= tick <= last:
                    return False
                number += 1
        if plain_window(load, process, number)[1] < end:
            return False
    return True


def all_rows(load, caps):
    """Return all lists of as many ticks as there are caps, with any of the processes."""
    every = range(len(load[2]))
    ticks = [list(tick) for size in range(len(every) + 1) for tick in combinations(every, size)]
    return [list(rows) for rows in product(ticks, repeat=len(caps))]


def must_windows(load, begin, counts, caps, process):
    windows = []
    while plain_window(load, process, counts[process] + len(windows))[1] < begin + len(caps):
        windows.append(plain_window(load, process, counts[process] + len(windows)))
    return windows


def most_placed(windows, ticks):
    """Return how many windows get a tick of their own at most, by trying."""
    if not windows:
        return 0
    first, last = windows[0]
    found = [most_placed(windows[1:], ticks)]
    for tick in ticks:
        if first <= tick <= last:
            found.append(1 + most_placed(windows[1:], [other for other in ticks if other != tick]))
    return max(found)


def matched(windows, ticks):
    """Return how many windows get a tick of their own at most, by exchanging ticks."""
    taken = {}

    def place(at, tried):
        for tick in ticks:
            if windows[at][0] <= tick <= windows[at][1] and tick not in tried:
                tried.add(tick)
                if tick not in taken or place(taken[tick], tried):
                    taken[tick] = at
                    return True
        return False

    return sum(place(at, set()) for at in range(len(windows)))


def plain_need(load, begin, counts, caps, asleep, process, ticks, placed=most_placed):
    windows = must_windows(load, begin, counts, caps, process)
    outside = [
        tick for tick in range(begin, begin + len(caps)) if tick not in ticks and (tick, process) not in asleep
    ]
    return len(windows) - placed(windows, outside)


def is_plain_stuck(load, begin, counts, caps, asleep, ticks, placed=most_placed):
    needs = [plain_need(load, begin, counts, caps, asleep, process, ticks, placed) for process in range(len(counts))]
    return sum(needs) > sum(caps[tick - begin] for tick in ticks)


def drawn_case(draw, load, ticks, begins):
    """Return a drawn case of a load with at most so many ticks: with fewer processors, with sleepers, both or none."""
    begin, many = draw.choice(begins), draw.randint(1, ticks)
    counts = [draw.choice(due_ends(share, load[1], begin)) for share in load[2]]
    caps = [draw.randint(0, load[0]) if draw.random() < 0.3 else load[0] for _ in range(many)]
    if draw.random() < 0.4:
        caps = [load[0]] * many
    cells = list(product(range(begin, begin + many), range(len(load[2]))))
    asleep = sorted(draw.sample(cells, min(len(cells), draw.choice([0, 0, 1, 2, 4]))))
    return load, begin, counts, caps, asleep


class SmallCases(unittest.TestCase):
    def cases(self):
        draw = Random(10)
        for load in LOADS:
            for _ in range(40):
                yield drawn_case(draw, load, 3 if len(load[2]) > 2 else 4, range(2 * load[1] + 2))

    def test_ways_against_all_lists_of_rows(self):
        for case in self.cases():
            with self.subTest(case=case):
                rows = all_rows(case[0], case[3])
                ways = [way for way in rows if is_plain_way(*case, way)]
                self.assertEqual([way for way in rows if is_way(*case, way)], ways)
                found = way_of(*case)
                if ways:
                    self.assertIn(found, ways)
                    self.assertIsNone(stuck_ticks(*case))
                else:
                    self.assertIsNone(found)

    def test_no_way_exactly_if_some_list_of_ticks_shows_it(self):
        told = {True: 0, False: 0}
        for case in self.cases():
            _, begin, _, caps, _ = case
            span = range(begin, begin + len(caps))
            lists = [list(ticks) for size in range(len(caps) + 1) for ticks in combinations(span, size)]
            with self.subTest(case=case):
                wanted = [ticks for ticks in lists if is_plain_stuck(*case, ticks)]
                self.assertEqual([ticks for ticks in lists if shows_stuck(*case, ticks)], wanted)
                self.assertEqual(way_of(*case) is None, bool(wanted))
                if wanted:
                    self.assertIn(stuck_ticks(*case), wanted)
                else:
                    self.assertIsNone(stuck_ticks(*case))
            told[bool(wanted)] += 1
        self.assertGreater(min(told.values()), 100)

    def test_needs(self):
        for case in self.cases():
            load, begin, _, caps, _ = case
            span = range(begin, begin + len(caps))
            for size in range(len(caps) + 1):
                for ticks in combinations(span, size):
                    for process in range(len(load[2])):
                        with self.subTest(case=case, process=process, ticks=ticks):
                            wanted = plain_need(*case, process, ticks)
                            self.assertEqual(need_of(*case, process, list(ticks)), wanted)

    def test_far_from_the_first_round(self):
        for load, begin, counts, caps, asleep in self.cases():
            rounds = 10 ** 20 + 7
            far = begin + rounds * load[1]
            moved = [count + rounds * share for count, share in zip(counts, load[2])]
            cells = [(tick + rounds * load[1], process) for tick, process in asleep]
            near, case = (load, begin, counts, caps, asleep), (load, far, moved, caps, cells)
            with self.subTest(case=case):
                self.assertEqual(way_of(*case), way_of(*near))
                stuck = stuck_ticks(*near)
                if stuck is None:
                    self.assertIsNone(stuck_ticks(*case))
                    self.assertIs(is_way(*case, way_of(*case)), True)
                else:
                    self.assertEqual(stuck_ticks(*case), [tick + rounds * load[1] for tick in stuck])
                    self.assertIs(shows_stuck(*case, stuck_ticks(*case)), True)


class LargeCases(unittest.TestCase):
    def check(self, case):
        way, stuck = way_of(*case), stuck_ticks(*case)
        if stuck is None:
            self.assertIsNotNone(way)
            self.assertTrue(is_plain_way(*case, way))
            self.assertIs(is_way(*case, way), True)
            return "way"
        self.assertIsNone(way)
        self.assertEqual(stuck, sorted(set(stuck)))
        self.assertTrue(all(case[1] <= tick < case[1] + len(case[3]) for tick in stuck))
        self.assertTrue(is_plain_stuck(*case, stuck, matched))
        self.assertIs(shows_stuck(*case, stuck), True)
        needs = [need_of(*case, process, stuck) for process in range(len(case[2]))]
        self.assertGreater(sum(needs), sum(case[3][tick - case[1]] for tick in stuck))
        return "stuck"

    def test_drawn_cases(self):
        draw = Random(4)
        told = []
        for _ in range(300):
            case = drawn_case(draw, drawn_load(draw, 5, 30, 8), 25, [0, 1, 5, 17, 100, 10 ** 29 + 3])
            with self.subTest(case=case):
                told.append(self.check(case))
        self.assertGreater(min(told.count("way"), told.count("stuck")), 50)

    def test_cases_of_60_ticks_with_200_sleepers(self):
        draw = Random(60)
        told = []
        for turn in range(40):
            processors = draw.randint(1, 7)
            period = draw.choice([61, 1000, 10 ** 29])
            shares = [max(1, period * processors // 8 * draw.randint(1, 8) // 8) for _ in range(8)]
            load, begin = (processors, period, shares), draw.choice([0, 33, BIG - 60])
            counts = [draw.choice(due_ends(share, period, begin)) for share in shares]
            cells = list(product(range(begin, begin + 60), range(8)))
            asleep = sorted(draw.sample(cells, 200 if turn % 2 else 3))
            caps = [processors if draw.random() < 0.9 else draw.randint(0, processors) for _ in range(60)]
            with self.subTest(load=load, begin=begin, counts=counts, caps=caps, asleep=asleep):
                told.append(self.check((load, begin, counts, caps, asleep)))
        self.assertGreater(min(told.count("way"), told.count("stuck")), 5)

    def test_ways_that_only_long_exchanges_find(self):
        # each process sleeps where it would run by the first ends
        draw = Random(2)
        for _ in range(100):
            load = drawn_load(draw, 3, 12, 5)
            caps = [load[0]] * 24
            case = (load, 0, [0] * len(load[2]), caps, [])
            for _ in range(8):
                way = way_of(*case)
                if way is None:
                    break
                taken = [(tick, process) for tick, row in enumerate(way) for process in row]
                case = (*case[:4], sorted({*case[4], draw.choice(taken)}))
                with self.subTest(case=case):
                    self.check(case)


class Ways(unittest.TestCase):
    case = ((2, 4, [2, 2, 2]), 0, [0, 0, 0], [2, 1, 2, 2, 2, 2], [(1, 1)])

    def test_one_process_more_less_or_moved(self):
        way = way_of(*self.case)
        self.assertIs(is_way(*self.case, way), True)
        for tick, process in product(range(6), range(3)):
            changed = [[other for other in row if (at, other) != (tick, process)] for at, row in enumerate(way)]
            if process not in way[tick]:
                changed[tick] = sorted(changed[tick] + [process])
            with self.subTest(way=changed):
                self.assertIs(is_way(*self.case, changed), is_plain_way(*self.case, changed))
            for other in range(6):
                if other != tick and process in way[tick] and process not in way[other]:
                    moved = [list(row) for row in changed]
                    moved[other] = sorted(moved[other] + [process])
                    with self.subTest(way=moved):
                        self.assertIs(is_way(*self.case, moved), is_plain_way(*self.case, moved))

    def test_values_that_are_no_ways(self):
        way = way_of(*self.case)
        none = [*NO_LISTS, tuple(way), [], way[:5], way + [[]], [tuple(row) for row in way], way[::-1] + [None]]
        for value in none:
            with self.subTest(value=value):
                self.assertIs(is_way(*self.case, value), False)
        for tick in range(6):
            for wrong in [None, True, 0, "", "0", (), (0,), {}, way[tick][::-1] + [-1], [3], [True], [0, 0], [BIG]]:
                value = way[:tick] + [wrong] + way[tick + 1:]
                with self.subTest(value=value):
                    self.assertIs(is_way(*self.case, value), False)
        self.assertIs(is_way(THREE, 0, [0, 0, 0], [1, 1], [], [[False], [1]]), False)
        self.assertIs(is_way(THREE, 0, [0, 0, 0], [1, 1], [], [[0], [True]]), False)
        self.assertIs(is_way(THREE, 0, [0, 0, 0], [1, 1], [], [[0], [1]]), True)
        self.assertIs(is_way(PAIR, 0, [0, 0, 0], [2, 2], [], [[1, 0], [0, 2]]), False)
        self.assertIs(is_way(PAIR, 0, [0, 0, 0], [2, 2], [], [[0, 1], [0, 2]]), True)

    def test_caps_and_sleepers(self):
        start = (PAIR, 0, [0, 0, 0])
        self.assertIs(is_way(*start, [2], [], [[0, 1]]), True)
        self.assertIs(is_way(*start, [1], [], [[0, 1]]), False)
        self.assertIs(is_way(*start, [1], [], [[0]]), True)
        self.assertIs(is_way(*start, [0], [], [[]]), True)
        self.assertIs(is_way(*start, [2], [(0, 1)], [[0, 1]]), False)
        self.assertIs(is_way(*start, [2], [(0, 1)], [[0, 2]]), True)

    def test_one_tick(self):
        self.assertEqual(way_of((1, 1, [1]), 5, [5], [1], []), [[0]])
        self.assertIsNone(way_of((1, 1, [1]), 5, [5], [0], []))
        self.assertEqual(stuck_ticks((1, 1, [1]), 5, [5], [0], []), [5])
        self.assertIsNone(way_of((1, 1, [1]), 5, [5], [1], [(5, 0)]))
        self.assertEqual(shows_stuck((1, 1, [1]), 5, [5], [1], [(5, 0)], []), True)

    def test_a_slice_that_cannot_be_anywhere(self):
        case = (THREE, 0, [0, 0, 0], [1, 1, 1], [(0, 0), (1, 0)])
        self.assertIs(shows_stuck(*case, []), True)
        self.assertEqual([need_of(*case, process, []) for process in range(3)], [1, 0, 0])
        self.assertIs(shows_stuck(*case, [2]), False)
        self.assertIs(shows_stuck(*case, stuck_ticks(*case)), True)

    def test_counts_rounded_down_and_up(self):
        # at moment 1 each of them has half a slice or less due
        for counts in product([0, 1], repeat=3):
            case = (THREE, 1, list(counts), [1, 1, 1, 1, 1], [])
            with self.subTest(counts=counts):
                ways = [way for way in all_rows(THREE, [1, 1]) if is_plain_way(*case[:3], [1, 1], [], way)]
                found = way_of(*case[:3], [1, 1], [])
                self.assertEqual(found is None, not ways)
                self.assertEqual(way_of(*case) is None, sum(counts) == 0)


class Needs(unittest.TestCase):
    def test_no_ticks_some_and_all(self):
        case = (PAIR, 0, [0, 0, 0], [2] * 6, [(2, 0)])
        self.assertEqual([need_of(*case, 0, ticks) for ticks in [[], [1], [1, 4], list(range(6))]], [0, 1, 1, 4])
        self.assertEqual([need_of(*case, 1, ticks) for ticks in [[], [1], [1, 2], [0, 1, 2], [1, 2, 4, 5]]],
                         [0, 0, 1, 2, 2])

    def test_slices_that_end_behind_the_case_do_not_count(self):
        for many, need in [(5, 0), (6, 1)]:
            self.assertEqual(need_of(THREE, 0, [0, 0, 0], [1] * many, [], 2, list(range(many))), need)
        self.assertEqual(need_of((1, BIG, [1]), 0, [0], [1] * 60, [], 0, list(range(60))), 0)
        self.assertEqual(need_of((1, BIG, [1]), BIG - 60, [0], [1] * 60, [], 0, list(range(BIG - 60, BIG))), 1)
        self.assertEqual(need_of((1, BIG, [1]), BIG - 60, [1], [1] * 60, [], 0, list(range(BIG - 60, BIG))), 0)

    def test_wrong_ticks(self):
        case = (THREE, 7, [4, 2, 1], [1, 1, 1], [])
        for value in [*NO_LISTS, (7, 8), "78"]:
            with self.subTest(value=value):
                told = outcome(need_of, *case, 0, value)
                self.assertEqual(told, [errors.InvalidTicks, {"index": None}])
                self.assertIs(shows_stuck(*case, value), False)
        wrong = [
            *[([value], 0) for value in [*NO_NUMBERS, 0, 6, 10, BIG, 10 ** 5000]], ([7, 7], 1), ([8, 7], 1),
            ([7, 8, 10], 2), ([7, 8, 8], 2), ([7, 9, 8, 6], 2), ([7, True], 1), ([7, None, 9], 1), ([7, "8"], 1),
        ]
        for value, index in wrong:
            with self.subTest(value=value):
                told = outcome(need_of, *case, 0, value)
                self.assertEqual(told, [errors.InvalidTicks, {"index": index}])
                self.assertIs(shows_stuck(*case, value), False)
        self.assertEqual(need_of(*case, 0, [7, 8, 9]), 1)

    def test_stuck_lists_must_be_lists_of_ticks_of_the_case(self):
        case = (THREE, 0, [0, 0, 0], [0, 0, 1], [])
        self.assertIs(shows_stuck(*case, [0, 1]), True)
        for value in [(0, 1), [1, 0], [0, 0, 1], [0, True], [False, 1], [-1, 0, 1], [0, 1, 3], [0, 1, None], {}, None]:
            with self.subTest(value=value):
                self.assertIs(shows_stuck(*case, value), False)
