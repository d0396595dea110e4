"""Points 34, 35 and 36."""

import copy
import inspect
import unittest
from fractions import Fraction
from math import ceil
from random import Random

from evenslices import errors
from evenslices.changes import failing_moment
from evenslices.dispatchers import Dispatcher, RestingDispatcher, SureDispatcher, SureRestingDispatcher
from evenslices.plans import is_even
from evenslices.states import can_go_on
from tests.helpers import BIG, NO_LISTS, NO_LOADS, NO_NUMBERS, OBJECTS, drawn_load, outcome, plain_failing

KINDS = [Dispatcher, SureDispatcher, RestingDispatcher, SureRestingDispatcher]
SURE = [SureDispatcher, SureRestingDispatcher]
RESTING = [RestingDispatcher, SureRestingDispatcher]

THREE = (1, 6, [3, 2, 1])
DULL = (1, 8, [3, 3, 1, 1])


def made(kind, load, most=3):
    return kind(load, most) if kind in RESTING else kind(load)


def told(desk):
    """Return all that a dispatcher tells of itself."""
    return {
        "moment": desk.moment, "counts": desk.counts, "lags": desk.lags, "shares": desk.shares, "period": desk.period,
        "log": desk.log, "len": len(desk), "doomed": desk.doomed, "described": desk.described(),
        "most": desk.most if isinstance(desk, RestingDispatcher) else None,
    }


class Plain:
    """What the points say of a dispatcher, in the plainest way: all of it is worked out from the list of calls."""

    def __init__(self, kind, load, most):
        self.kind, self.most, self.period, self.first = kind, most, load[1], list(load[2])
        self.log = []

    def state(self):
        shares, counts, lags, ran = self.first, [0] * len(self.first), [Fraction(0)] * len(self.first), []
        for word, value in self.log:
            if word == "shares":
                shares = value
                continue
            lags = [lag + Fraction(share, self.period) for lag, share in zip(lags, shares)]
            if value is not None:
                lags[value] -= 1
                counts[value] += 1
            ran.append(value)
        return shares, counts, lags, ran

    def row(self):
        ran = self.state()[3]
        row = 0
        while row < len(ran) and ran[-1] is not None and ran[-1 - row] == ran[-1]:
            row += 1
        return row

    def failing(self, shares, lags):
        return plain_failing(self.period, [int(lag * self.period) for lag in lags], self.period, shares)

    def told(self):
        shares, counts, lags, ran = self.state()
        failing = self.failing(shares, lags)
        strings = [f"moment {len(ran)}", "ran " + ("-" if not ran or ran[-1] is None else str(ran[-1]))]
        return {
            "moment": len(ran), "counts": counts, "lags": [lag * self.period for lag in lags], "shares": shares,
            "period": self.period, "log": self.log, "len": len(self.log),
            "doomed": None if failing is None else len(ran) + failing,
            "described": strings + ([f"row {self.row()}"] if self.kind in RESTING else []),
            "most": self.most if self.kind in RESTING else None,
        }

    def is_tired(self, process):
        ran = self.state()[3]
        return self.kind in RESTING and len(ran) >= self.most and set(ran[-self.most:]) == {process}

    def choice(self):
        """Return the process that `tick` runs."""
        shares, _, lags, _ = self.state()
        found = []
        for process, (lag, share) in enumerate(zip(lags, shares)):
            if share > 0 and lag * self.period + share > 0 and not self.is_tired(process):
                found.append((ceil((self.period - lag * self.period) / share), process))
        return min(found)[1] if found else None

    def missed(self, process):
        shares, _, lags, _ = self.state()
        lags = [lag + Fraction(share, self.period) for lag, share in zip(lags, shares)]
        if process is not None:
            lags[process] -= 1
        off = [at for at, lag in enumerate(lags) if not -1 < lag < 1]
        return (off[0] if off else None), lags

    def error(self, name, value=None):
        """Return the error of a call, with its fields, or None."""
        shares, _, lags, ran = self.state()
        if name == "undo":
            return None if self.log else [errors.NothingToUndo, {}]
        if name == "shares":
            failing = self.failing(value, lags)
            return None if failing is None else [errors.Doomed, {"by": len(ran) + failing}]
        process = self.choice() if name == "tick" else value
        if name == "give" and process is not None:
            if lags[process] * self.period + shares[process] <= 0:
                return [errors.Early, {}]
            if self.is_tired(process):
                return [errors.Tired, {"process": process}]
        missed, behind = self.missed(process)
        if missed is not None:
            return [errors.Missed, {"process": missed}]
        failing = self.failing(shares, behind)
        if name == "give" and self.kind in SURE and failing is not None:
            return [errors.Doomed, {"by": len(ran) + 1 + failing}]
        return None

    def apply(self, name, value=None):
        if name == "undo":
            self.log = self.log[:-1]
        elif name == "shares":
            self.log = [*self.log, ("shares", list(value))]
        else:
            self.log = [*self.log, ("give", self.choice() if name == "tick" else value)]


def call(desk, name, value=None):
    if name == "give":
        return desk.give(value)
    if name == "shares":
        return desk.set_shares(value)
    return desk.tick() if name == "tick" else desk.undo()


def drawn_call(draw, desk):
    """Return a drawn call of a dispatcher; some calls raise errors."""
    name = draw.choice(["tick", "give", "give", "give", "give", "shares", "undo", "none"])
    many = len(desk.shares)
    if name == "none":
        return "give", None
    if name == "give":
        return "give", draw.randrange(many)
    if name == "shares":
        total = draw.choice([desk.period, draw.randint(0, desk.period)])
        cuts = sorted(draw.randint(0, total) for _ in range(many - 1))
        return "shares", [after - ahead for ahead, after in zip([0, *cuts], [*cuts, total])]
    return name, None


class AgainstThePlainWay(unittest.TestCase):
    def check(self, draw, kind, load, most, calls):
        desk, plain, found = made(kind, load, most), Plain(kind, load, most), {}
        self.assertEqual(told(desk), plain.told())
        for _ in range(calls):
            name, value = drawn_call(draw, desk)
            wanted = plain.error(name, value)
            ran = plain.choice() if name == "tick" else None
            if wanted is None:
                self.assertEqual(call(desk, name, value), ran)
                plain.apply(name, value)
            else:
                self.assertEqual(outcome(call, desk, name, value), wanted)
            found[None if wanted is None else wanted[0]] = True
            self.assertEqual(told(desk), plain.told())
        for _ in range(len(desk)):
            desk.undo()
            plain.apply("undo")
            self.assertEqual(told(desk), plain.told())
        self.assertEqual(desk, made(kind, load, most))
        self.assertEqual(outcome(desk.undo), [errors.NothingToUndo, {}])
        return found

    def test_drawn_calls(self):
        for kind in KINDS:
            draw = Random(34)
            found = {}
            for turn in range(60):
                load = drawn_load(draw, 1, draw.choice([6, 12]), 5)
                most = draw.randint(1, 3)
                with self.subTest(kind=kind.__name__, turn=turn, load=load, most=most):
                    found.update(self.check(draw, kind, load, most, 25))
            wanted = {None, errors.Early, errors.Missed, errors.Doomed, errors.NothingToUndo}
            self.assertEqual(set(found), wanted | ({errors.Tired} if kind in RESTING else set()))

    def test_limits(self):
        draw = Random(3400)
        for kind in KINDS:
            for load in [(1, 3000, [250] * 12), (1, 3000, [2999, 1]), (1, 3000, [1, 2, 3, 700])]:
                desk = made(kind, load, 4)
                for turn in range(200):
                    try:
                        call(desk, *drawn_call(draw, desk))
                    except errors.SliceError:
                        pass
                    self.assertTrue(all(abs(lag) < 3000 for lag in desk.lags))
                self.assertEqual(desk.doomed is None, failing_moment(3000, desk.lags, 3000, desk.shares) is None)


class Ticks(unittest.TestCase):
    def test_rounds_of_ticks_are_even_and_full(self):
        draw = Random(340)
        for _ in range(60):
            load = drawn_load(draw, 1, 40, 8)
            for kind in KINDS[:2]:
                desk = kind(load)
                plan = [[] if process is None else [process] for process in [desk.tick() for _ in range(load[1])]]
                self.assertTrue(is_even(load, plan))
                self.assertEqual([desk.counts, desk.lags, desk.moment], [load[2], [0] * len(load[2]), load[1]])
                self.assertEqual(desk.log, [("give", row[0] if row else None) for row in plan])

    def test_none_runs_if_no_slice_has_begun(self):
        desk = Dispatcher((1, 3, [1]))
        self.assertEqual([desk.tick() for _ in range(4)], [0, None, None, 0])
        self.assertEqual([desk.described(), desk.log[1]], [["moment 4", "ran 0"], ("give", None)])
        desk.undo()
        self.assertEqual(desk.described(), ["moment 3", "ran -"])

    def test_processes_with_share_0_are_left_out(self):
        desk = Dispatcher((1, 4, [2, 2]))
        self.assertEqual([desk.give(None), desk.lags], [None, [2, 2]])
        self.assertIsNone(desk.set_shares([0, 4]))
        self.assertEqual([desk.tick() for _ in range(3)], [1, 1, 1])
        self.assertEqual([desk.lags, desk.counts], [[2, 2], [0, 3]])
        # its slice has begun, so it can have it, but then it would be too late for the other one
        self.assertEqual(outcome(desk.give, 0), [errors.Missed, {"process": 1}])
        self.assertIsNone(desk.set_shares([0, 1]))
        self.assertIsNone(desk.give(0))
        self.assertEqual([desk.lags, outcome(desk.give, 0)], [[-2, 3], [errors.Early, {}]])

    def test_doomed_is_where_it_fails(self):
        loose = Dispatcher(DULL)
        loose.give(2)
        loose.give(3)
        self.assertEqual([loose.doomed, can_go_on(DULL, 2, loose.counts)], [3, False])
        self.assertEqual(outcome(loose.tick), [errors.Missed, {"process": 1}])
        self.assertEqual([loose.moment, loose.described()], [2, ["moment 2", "ran 3"]])
        loose.undo()
        self.assertIsNone(loose.doomed)


class GiveErrors(unittest.TestCase):
    def test_each_error_alone_and_nothing_is_changed(self):
        for kind in KINDS:
            desk = made(kind, DULL, 1)
            desk.give(2)
            before = told(desk)
            wanted = [
                (2, [errors.Early, {}]),
                *[(value, [errors.InvalidProcess, {}]) for value in [*NO_NUMBERS, 4, BIG] if value is not None],
            ]
            if kind in SURE:
                wanted.append((3, [errors.Doomed, {"by": 3}]))
            for value, error in wanted:
                with self.subTest(kind=kind.__name__, value=value):
                    self.assertEqual(outcome(desk.give, value), error)
                    self.assertEqual(outcome(desk.give, process=value), error)
                    self.assertEqual(told(desk), before)

    def test_tired(self):
        for kind in RESTING:
            desk = kind((1, 4, [3, 1]), 2)
            desk.give(0)
            desk.give(0)
            before = told(desk)
            self.assertEqual(outcome(desk.give, 0), [errors.Tired, {"process": 0}])
            self.assertEqual(told(desk), before)
            self.assertEqual([desk.tick(), desk.described()], [1, ["moment 3", "ran 1", "row 1"]])

    def test_early_is_ahead_of_tired(self):
        for kind in RESTING:
            desk = kind((1, 4, [1, 3]), 1)
            desk.give(0)
            self.assertEqual(outcome(desk.give, 0), [errors.Early, {}])

    def test_early_is_ahead_of_missed(self):
        # behind this tick both others would not be even
        for kind in KINDS[::2]:
            desk = made(kind, (1, 6, [1, 1, 4]), 9)
            self.assertEqual([desk.give(0), desk.lags], [None, [-5, 1, 4]])
            self.assertEqual(outcome(desk.give, 0), [errors.Early, {}])
            self.assertEqual(outcome(desk.give, None), [errors.Missed, {"process": 2}])

    def test_tired_is_ahead_of_missed_and_missed_ahead_of_doomed(self):
        for kind in RESTING:
            desk = kind((1, 12, [9, 3]), 3)
            for _ in range(3):
                desk.give(0)
            # if the first one ran once more, the other one would not be even
            self.assertEqual([desk.lags, desk.doomed, desk.described()[2]], [[-9, 9], None, "row 3"])
            desk.set_shares([10, 2])
            self.assertEqual(outcome(desk.give, 0), [errors.Tired, {"process": 0}])
            desk.set_shares([9, 3])
            self.assertEqual(outcome(desk.give, 0), [errors.Early, {}])
            self.assertEqual(outcome(desk.give, None), [errors.Missed, {"process": 1}])
        for kind in SURE:
            desk = made(kind, DULL, 1)
            desk.give(2)
            self.assertEqual([desk.give(0), desk.lags], [None, [-2, 6, -6, 2]])
            self.assertEqual(outcome(desk.give, 3), [errors.Missed, {"process": 1}])

    def test_the_least_process_is_missed(self):
        desk = Dispatcher((1, 2, [1, 1]))
        desk.give(None)
        self.assertEqual(outcome(desk.give, None), [errors.Missed, {"process": 0}])
        self.assertEqual(outcome(desk.give, 0), [errors.Missed, {"process": 1}])
        self.assertEqual(outcome(desk.tick), [errors.Missed, {"process": 1}])
        self.assertEqual([desk.moment, desk.log, desk.doomed], [1, [("give", None)], 2])

    def test_sure_ones_are_never_doomed(self):
        draw = Random(360)
        refused = 0
        for kind in SURE:
            for _ in range(60):
                desk = made(kind, drawn_load(draw, 1, 12, 5), draw.randint(1, 3))
                for _ in range(20):
                    try:
                        call(desk, *drawn_call(draw, desk))
                    except errors.Doomed:
                        refused += 1
                    except errors.SliceError:
                        pass
                    self.assertIsNone(desk.doomed)
        self.assertGreater(refused, 20)
        desk = SureDispatcher((1, 4, [2, 2]))
        self.assertEqual(outcome(desk.give, None), [errors.Doomed, {"by": 2}])

    def test_no_set_shares_that_dooms(self):
        for kind in KINDS:
            desk = made(kind, (1, 8, [2, 2, 2, 2]), 9)
            desk.give(0)
            desk.give(1)
            before = told(desk)
            self.assertEqual(desk.lags, [-4, -4, 4, 4])
            self.assertEqual(outcome(desk.set_shares, [0, 0, 4, 4]), [errors.Doomed, {"by": 3}])
            self.assertEqual(told(desk), before)
            self.assertIsNone(desk.set_shares([0, 0, 3, 4]))
            self.assertEqual([desk.shares, desk.log[-1]], [[0, 0, 3, 4], ("shares", [0, 0, 3, 4])])
            self.assertEqual([len(desk), desk.moment], [3, 2])


class SetShares(unittest.TestCase):
    def test_wrong_shares(self):
        wrong = [
            *[(value, None) for value in [*NO_LISTS, (3, 2, 1), [], [3, 2], [3, 2, 1, 0], [99] * 4]],
            *[([value, 99, 0], 0) for value in [None, True, False, "1", [1], (1,), {}, -1, 7, BIG, *OBJECTS]],
            ([3, 4, 0], 1), ([3, 3, 1], 2), ([0, 0, 7], 2), ([6, 0, True], 2),
        ]
        for kind in KINDS:
            desk = made(kind, THREE)
            desk.tick()
            before = told(desk)
            for value, index in wrong:
                with self.subTest(kind=kind.__name__, value=value):
                    self.assertEqual(outcome(desk.set_shares, value), [errors.InvalidShares, {"index": index}])
                    self.assertEqual(outcome(desk.set_shares, shares=value), [errors.InvalidShares, {"index": index}])
                    self.assertEqual(told(desk), before)

    def test_invalid_shares_are_ahead_of_doomed(self):
        desk = Dispatcher(DULL)
        desk.give(2)
        desk.give(3)
        self.assertEqual(outcome(desk.set_shares, [3, 3, 3, 3]), [errors.InvalidShares, {"index": 2}])
        self.assertEqual(outcome(desk.set_shares, [3, 3, 1, 1]), [errors.Doomed, {"by": 3}])

    def test_all_0(self):
        for kind in KINDS:
            desk = made(kind, THREE)
            desk.set_shares([0, 0, 0])
            self.assertEqual([desk.tick() for _ in range(3)], [None] * 3)
            twin = desk.twin()
            self.assertEqual([twin, twin.shares, outcome(desk.give, 1)], [desk, [0, 0, 0], [errors.Early, {}]])


class Twins(unittest.TestCase):
    def test_same_class_and_same_calls_to_revert(self):
        draw = Random(35)
        for kind in KINDS:
            desk = made(kind, (1, 12, [5, 4, 3]), 2)
            for _ in range(12):
                try:
                    call(desk, *drawn_call(draw, desk))
                except errors.SliceError:
                    pass
                twin = desk.twin()
                self.assertIs(twin.__class__, kind)
                self.assertEqual([twin, told(twin)], [desk, told(desk)])
                before = told(desk)
                while len(twin):
                    twin.undo()
                self.assertEqual(told(desk), before)
                self.assertEqual(told(twin), told(made(kind, (1, 12, [5, 4, 3]), 2)))

    def test_neither_changes_the_other_one(self):
        for kind in KINDS:
            desk = made(kind, THREE)
            desk.tick()
            desk.set_shares([2, 2, 2])
            twin = desk.twin()
            before = told(desk)
            self.assertEqual(twin.tick(), 1)
            twin.set_shares([1, 1, 1])
            self.assertEqual(told(desk), before)
            self.assertNotEqual(desk, twin)
            after = told(twin)
            self.assertEqual([desk.undo(), desk.tick(), desk.give(2)], [None, 1, None])
            self.assertEqual(told(twin), after)
            for one in [desk, twin]:
                for _ in range(len(one)):
                    one.undo()
            self.assertEqual([desk, twin], [twin, made(kind, THREE)])

    def test_twins_of_twins(self):
        desk = SureRestingDispatcher(THREE, 1).twin().twin()
        self.assertEqual([desk.tick() for _ in range(3)], [0, 1, 0])
        self.assertEqual(desk.twin().most, 1)


class Equality(unittest.TestCase):
    def test_classes(self):
        for kind in KINDS:
            for other in KINDS:
                self.assertIs(made(kind, THREE) == made(other, THREE), kind is other)
                self.assertIs(made(kind, THREE) != made(other, THREE), kind is not other)

    def test_other_values(self):
        values = [None, True, False, 0, 1, "", "moment 0", [], [0], (), (0, 6), {}, {"a": 1}, *OBJECTS]
        for kind in KINDS:
            desk = made(kind, THREE)
            for value in values:
                with self.subTest(kind=kind.__name__, value=value):
                    same = value.__class__ is kind and value.shares == [3, 2, 1] and value.most == 3
                    self.assertIs(desk == value, same)
                    self.assertIs(value == desk, same)

    def test_what_counts(self):
        for kind in KINDS:
            one, other = made(kind, THREE), made(kind, THREE)
            self.assertEqual(one, other)
            one.give(0)
            self.assertNotEqual(one, other)
            other.tick()
            self.assertEqual(one, other)
            one.set_shares([3, 2, 0])
            self.assertNotEqual(one, other)
            one.set_shares([3, 2, 1])
            # the log does not count
            self.assertEqual(one, other)
            self.assertNotEqual(len(one), len(other))
            self.assertNotEqual(made(kind, THREE), made(kind, (1, 7, [3, 2, 1])))
            self.assertNotEqual(made(kind, THREE), made(kind, (1, 6, [3, 2])))
            self.assertNotEqual(made(kind, THREE), made(kind, (1, 6, [3, 1, 2])))
            load = [1, 6, [3, 2, 1]]
            self.assertEqual(made(kind, tuple(load)), made(kind, THREE))

    def test_counts_and_lags(self):
        # the same lags with other counts: shares that changed for a while
        one, other = Dispatcher((1, 2, [1, 1])), Dispatcher((1, 2, [1, 1]))
        for desk, shares, order in [(one, [1, 1], [0, 1]), (other, [2, 0], [0, 0])]:
            desk.set_shares(shares)
            for process in order:
                desk.give(process)
            desk.set_shares([1, 1])
        self.assertEqual([one.lags, one.moment, one.shares], [other.lags, other.moment, other.shares])
        self.assertNotEqual(one.counts, other.counts)
        self.assertNotEqual(one, other)

    def test_resting_ones_have_more(self):
        for kind in RESTING:
            self.assertNotEqual(kind(THREE, 2), kind(THREE, 3))
            self.assertEqual(kind(THREE, 10 ** 20), kind(THREE, 10 ** 20))
            # the same counts in another sequence
            one, other = kind((1, 4, [1, 1, 2]), 3), kind((1, 4, [1, 1, 2]), 3)
            for desk, order in [(one, [0, 2]), (other, [2, 0])]:
                for process in order:
                    desk.give(process)
            self.assertEqual([one.counts, one.lags], [other.counts, other.lags])
            self.assertNotEqual(one, other)
            # the same process last, in rows of other lengths
            one, other = kind((1, 9, [4, 5]), 3), kind((1, 9, [4, 5]), 3)
            for desk, order in [(one, [1, 0, 1]), (other, [0, 1, 1])]:
                for process in order:
                    desk.give(process)
            self.assertEqual([one.counts, one.lags, one.described()[:2]],
                             [other.counts, other.lags, other.described()[:2]])
            self.assertNotEqual(one, other)
        one, other = Dispatcher((1, 4, [1, 1, 2])), Dispatcher((1, 4, [1, 1, 2]))
        for desk, order in [(one, [0, 2]), (other, [2, 0])]:
            for process in order:
                desk.give(process)
        self.assertEqual(one, other)


class Rows(unittest.TestCase):
    def test_described(self):
        for kind in RESTING:
            desk = kind((1, 16, [8, 1, 1]), 3)
            self.assertEqual(desk.described(), ["moment 0", "ran -", "row 0"])
            rows = []
            for process in [0, 1, None, 0, 0, None, None, 0, 2]:
                desk.give(process)
                rows.append(desk.described()[1:])
            self.assertEqual(rows, [
                ["ran 0", "row 1"], ["ran 1", "row 1"], ["ran -", "row 0"], ["ran 0", "row 1"], ["ran 0", "row 2"],
                ["ran -", "row 0"], ["ran -", "row 0"], ["ran 0", "row 1"], ["ran 2", "row 1"],
            ])
            desk.set_shares([8, 1, 1])
            self.assertEqual(desk.described(), ["moment 9", "ran 2", "row 1"])
            for row in [1, 1, 0, 0, 2, 1, 0, 1, 1, 0]:
                desk.undo()
                self.assertEqual(desk.described()[2], f"row {row}")

    def test_no_process_runs_longer_than_most(self):
        draw = Random(36)
        for kind in RESTING:
            for _ in range(60):
                load = drawn_load(draw, 1, 20, 5)
                most = draw.randint(1, 4)
                desk, ran = kind(load, most), []
                try:
                    for _ in range(40):
                        ran.append(desk.tick())
                except errors.Missed:
                    self.assertEqual(desk.moment, len(ran))
                for process in range(len(load[2])):
                    row = 0
                    for other in ran:
                        row = row + 1 if other == process else 0
                        self.assertLessEqual(row, most)

    def test_most(self):
        for kind in RESTING:
            for value in [*NO_NUMBERS, 0]:
                self.assertEqual(outcome(kind, THREE, value), [errors.InvalidNumber, {}])
                self.assertEqual(outcome(kind, (2, 3, [2, 2, 2]), value), [errors.InvalidNumber, {}])
            self.assertEqual(outcome(kind, (2, 3, [2, 2, 2]), 1), [errors.NotSingle, {}])
            for value in [1, 2, BIG, 10 ** 40]:
                desk = kind((1, 2, [2]), value)
                self.assertEqual([desk.most, desk.tick()], [value, 0])
            self.assertEqual(outcome(kind, load=(1, 0, [1]), most=0), [errors.InvalidLoad, {"index": 1}])


class Interface(unittest.TestCase):
    def test_classes(self):
        self.assertEqual(SureDispatcher.__bases__, (Dispatcher,))
        self.assertEqual(RestingDispatcher.__bases__, (Dispatcher,))
        self.assertEqual(SureRestingDispatcher.__bases__, (SureDispatcher, RestingDispatcher))

    def test_methods_stand_in_their_classes(self):
        first = ["tick", "give", "set_shares", "undo", "twin", "described", "__init__", "__eq__", "__len__"]
        for kind, names in [
            (Dispatcher, first), (SureDispatcher, ["__init__", "tick", "give", "twin"]),
            (RestingDispatcher, ["__init__", "tick", "give", "twin", "described"]),
            (SureRestingDispatcher, ["__init__", "tick", "give", "twin", "described"]),
        ]:
            for name in names:
                self.assertTrue(inspect.isfunction(vars(kind).get(name)), [kind, name])
        for name in ["moment", "counts", "lags", "shares", "period", "log", "doomed"]:
            self.assertIsInstance(vars(Dispatcher)[name], property)
        for kind in RESTING:
            self.assertIsInstance(vars(kind)["most"], property)

    def test_names_of_parameters(self):
        for kind in KINDS:
            wanted = ["load", "most"] if kind in RESTING else ["load"]
            self.assertEqual(list(inspect.signature(kind).parameters), wanted)
            for name, names in [("tick", []), ("give", ["process"]), ("set_shares", ["shares"]), ("undo", [])]:
                self.assertEqual(list(inspect.signature(getattr(kind, name)).parameters), ["self", *names])

    def test_wrong_loads(self):
        for kind in KINDS:
            for value, index in NO_LOADS:
                self.assertEqual(outcome(made, kind, value), [errors.InvalidLoad, {"index": index}])
            for load in [(2, 3, [2, 2, 2]), (12, 1, [1]), (2, 4, [4, 4])]:
                self.assertEqual(outcome(made, kind, load), [errors.NotSingle, {}])


class ListsOfTheCaller(unittest.TestCase):
    def test_told_lists_are_not_its_own(self):
        for kind in KINDS:
            load, shares = (1, 6, [3, 2, 1]), [2, 2, 2]
            desk = made(kind, load)
            desk.tick()
            desk.set_shares(shares)
            desk.tick()
            before = copy.deepcopy(told(desk))
            load[2][0] = shares[0] = 99
            for name in ["counts", "lags", "shares", "log"]:
                getattr(desk, name).append(99)
                getattr(desk, name)[0] = 99
            desk.log[1][1][0] = 99
            desk.log[1][1].append(99)
            desk.described().append("x")
            self.assertEqual(told(desk), before)
            twin = desk.twin()
            twin.log[1][1].append(99)
            self.assertEqual([told(desk), told(twin)], [before, before])
            for _ in range(3):
                desk.undo()
            self.assertEqual([desk.shares, desk.counts], [[3, 2, 1], [0, 0, 0]])
            self.assertEqual(desk, made(kind, THREE))

    def test_arguments_stay_as_they_are(self):
        for kind in KINDS:
            load, shares = (1, 6, [3, 2, 1]), [2, 2, 2]
            desk = made(kind, load)
            desk.set_shares(shares)
            desk.give(1)
            self.assertEqual([load, shares], [(1, 6, [3, 2, 1]), [2, 2, 2]])

    def test_each_answer_is_new(self):
        desk = Dispatcher(THREE)
        desk.set_shares([2, 2, 2])
        for name in ["counts", "lags", "shares", "log"]:
            self.assertIsNot(getattr(desk, name), getattr(desk, name))
        self.assertIsNot(desk.log[0][1], desk.log[0][1])
