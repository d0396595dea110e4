"""Point 38."""

import inspect
import unittest
from random import Random

from evenslices import errors
from evenslices.console import Console
from evenslices.dispatchers import Dispatcher, SureDispatcher
from evenslices.plans import first_off
from evenslices.texts import format_load, format_plan
from tests.helpers import NO_LISTS, drawn_load, outcome

STATES = ["state", "counts", "lags", "doomed"]

NO_COMMAND = [errors.InvalidCommand, {}]

# words that are not of the form of a number
NO_WORDS = ["", "+", "+1", "-1", "01", "00", "1_0", "1.0", "x", "1:", "\u0661", "\u00b2", "9" * 31, "1\n", "None"]


def told(console):
    return [console.execute(command) for command in STATES]


def begun(*commands):
    console = Console()
    for command in commands:
        console.execute(command)
    return console


def words(numbers):
    return " ".join(map(str, numbers))


class AgainstDispatchers(unittest.TestCase):
    def compare(self, console, desk):
        moment = desk.doomed
        wanted = [
            ", ".join(desk.described()), words(desk.counts), words(desk.lags), "none" if moment is None else str(moment)
        ]
        self.assertEqual(told(console), wanted)

    def run_one(self, draw, console, desk, made):
        """Give a drawn command to a console, and what it means to a dispatcher; return how it ended."""
        name = draw.choice(["run", "run", "give", "give", "give", "shares", "undo", "off"])
        many = len(desk.shares)
        if name == "undo":
            if not made:
                return outcome(console.execute, "undo"), [errors.NothingToUndo, {}]
            for _ in range(made.pop()):
                desk.undo()
            return console.execute("undo"), "ok"
        if name == "off":
            plan = [draw.choice([[], *[[process] for process in range(many)]]) for _ in range(draw.randint(0, 9))]
            command = " ".join(["off", format_plan((1, many, [1] * many), plan)]) if plan else "off"
            if 0 in desk.shares:
                return outcome(console.execute, command), NO_COMMAND
            off = first_off((1, desk.period, desk.shares), plan)
            return console.execute(command), "even" if off is None else f"{off[0]} {off[1]}"
        if name == "run":
            number = draw.choice([1, 2, 3, 7, 100])
            twin = desk.twin()
            return self.compare_calls(console, f"run {number}", desk, [twin.tick] * number, made)
        if name == "give":
            process = draw.choice([None, *range(many), many])
            word = "-" if process is None else str(process)
            return self.compare_calls(console, f"give {word}", desk, [lambda: desk.give(process)], made)
        cuts = sorted(draw.randint(0, desk.period) for _ in range(draw.choice([many, many - 1, many - 1, many - 1])))
        shares = [after - ahead for ahead, after in zip([0, *cuts], [*cuts, desk.period])]
        return self.compare_calls(console, "shares " + words(shares), desk, [lambda: desk.set_shares(shares)], made)

    def compare_calls(self, console, command, desk, calls, made):
        """Return how a command ended, and how the calls did that it means."""
        ran = []
        try:
            for make in calls:
                ran.append(make())
        except errors.SliceError as error:
            return outcome(console.execute, command), [error.__class__, vars(error)]
        if command.startswith("run"):
            for process in ran:
                self.assertEqual(desk.tick(), process)
            result = " ".join("-" if process is None else str(process) for process in ran)
        else:
            result = "ok"
        made.append(len(calls))
        return console.execute(command), result

    def test_drawn_commands(self):
        draw = Random(38)
        found = {}
        for turn in range(80):
            load = drawn_load(draw, 1, draw.choice([6, 12, 30]), 5)
            kind = draw.choice([Dispatcher, SureDispatcher])
            word = "load" if kind is Dispatcher else "sure"
            console, desk, made = Console(), kind(load), []
            with self.subTest(turn=turn, load=load, word=word):
                self.assertEqual(console.execute(word + " " + format_load(load)), "ok")
                for _ in range(20):
                    result, wanted = self.run_one(draw, console, desk, made)
                    self.assertEqual(result, wanted)
                    found[wanted[0] if isinstance(wanted, list) else None] = True
                    self.compare(console, desk)
                while made:
                    for _ in range(made.pop()):
                        desk.undo()
                    self.assertEqual(console.execute("undo"), "ok")
                    self.compare(console, desk)
                self.assertEqual(desk, kind(load))
                self.assertEqual(outcome(console.execute, "undo"), [errors.NothingToUndo, {}])
        self.assertEqual(set(found), {
            None, errors.Early, errors.Missed, errors.Doomed, errors.NothingToUndo, errors.InvalidProcess,
            errors.InvalidShares, errors.InvalidCommand,
        })


class Commands(unittest.TestCase):
    def test_at_first(self):
        console = Console()
        self.assertEqual(told(console), ["moment 0, ran -", "0", "0", "none"])
        self.assertEqual(console.execute("run 3"), "0 0 0")
        self.assertEqual([console.execute("off"), console.execute("off 0 0"), console.execute("off -")],
                         ["even", "even", "1 0"])
        self.assertEqual(console.execute(command="counts"), "3")

    def test_two_consoles(self):
        one, other = Console(), Console()
        one.execute("run 2")
        self.assertEqual([one.execute("counts"), other.execute("counts")], ["2", "0"])

    def test_run(self):
        console = begun("load 1 4: 1 1")
        self.assertEqual(console.execute("run 5"), "0 1 - - 0")
        self.assertEqual(console.execute("run 100").split(" ").count("-"), 50)
        self.assertEqual(console.execute("state"), "moment 105, ran 0")
        for command in ["run", "run 0", "run 101", "run 1 1", "run -", "run 1 ", "run  1", " run 1", "Run 1", "run 01",
                        "run +1", "run " + "9" * 30, "run " + "9" * 31, "run1", "run x"]:
            with self.subTest(command=command):
                self.assertEqual(outcome(console.execute, command), NO_COMMAND)
        self.assertEqual(console.execute("state"), "moment 105, ran 0")

    def test_an_error_in_the_midst_of_a_run(self):
        console = begun("load 1 12: 3 3 3 3", "give -", "give -")
        before = told(console)
        self.assertEqual(before, ["moment 2, ran -", "0 0 0 0", "6 6 6 6", "4"])
        for number in [2, 3, 100]:
            self.assertEqual(outcome(console.execute, f"run {number}"), [errors.Missed, {"process": 2}])
            self.assertEqual(told(console), before)
        self.assertEqual([console.execute("run 1"), console.execute("lags")], ["0", "-3 9 9 9"])
        self.assertEqual(outcome(console.execute, "run 1"), [errors.Missed, {"process": 2}])
        self.assertEqual([console.execute("undo"), told(console)], ["ok", before])
        self.assertEqual([console.execute("undo") for _ in range(2)], ["ok"] * 2)
        self.assertEqual(outcome(console.execute, "undo"), [errors.NothingToUndo, {}])

    def test_undo(self):
        console = begun("load 1 6: 3 2 1", "run 4", "shares 2 2 2", "give 2")
        self.assertEqual(console.execute("state"), "moment 5, ran 2")
        states = []
        for _ in range(3):
            self.assertEqual(console.execute("undo"), "ok")
            states.append(told(console)[:2])
        self.assertEqual(states, [["moment 4, ran 1", "2 2 0"]] * 2 + [["moment 0, ran -", "0 0 0"]])
        self.assertEqual(outcome(console.execute, "undo"), [errors.NothingToUndo, {}])
        self.assertEqual(console.execute("run 6"), "0 1 0 1 0 2")
        for command in ["undo ", " undo", "undo 1", "undo -", "undos", "UNDO"]:
            self.assertEqual(outcome(console.execute, command), NO_COMMAND)

    def test_what_raised_an_error_is_not_reverted(self):
        console = begun("load 1 6: 3 2 1", "give 0", "give 1", "give 0")
        for command, error in [
            ("give 9", [errors.InvalidProcess, {}]), ("give 0", [errors.Early, {}]), ("run 0", NO_COMMAND),
            ("shares 1", [errors.InvalidShares, {"index": None}]), ("load 2 1: 1", [errors.NotSingle, {}]),
        ]:
            self.assertEqual(outcome(console.execute, command), error)
        self.assertEqual([console.execute("undo") for _ in range(3)], ["ok"] * 3)
        self.assertEqual(outcome(console.execute, "undo"), [errors.NothingToUndo, {}])

    def test_a_new_load_begins_anew(self):
        for word in ["load", "sure"]:
            console = begun("load 1 6: 3 2 1", "run 4")
            self.assertEqual(console.execute(word + " 1 4: 2 1"), "ok")
            self.assertEqual(told(console), ["moment 0, ran -", "0 0", "0 0", "none"])
            self.assertEqual(outcome(console.execute, "undo"), [errors.NothingToUndo, {}])

    def test_loads_that_are_no_command(self):
        console = begun("load 1 6: 3 2 1", "run 4")
        before = told(console)
        for word in ["load", "sure"]:
            for text in ["", " ", "1", "1 6:", "1 6", "0 6: 1", "13 6: 1", "1 6: 0", "1 6: 7", "1 6: 3 4", "1 6: 3 ",
                         " 1 6: 3", "1  6: 3", "1 6:  3", "1 6 : 3", "1 06: 3", "1 6: 03", "1 6: -", "1 6: +3", "x",
                         "12 1: " + words([1] * 13), "1 " + "9" * 31 + ": 1"]:
                with self.subTest(word=word, text=text):
                    self.assertEqual(outcome(console.execute, word + " " + text), NO_COMMAND)
            self.assertEqual(outcome(console.execute, word), NO_COMMAND)
            for text in ["2 3: 2 2 2", "12 1: 1", "2 6: 6 6"]:
                self.assertEqual(outcome(console.execute, word + " " + text), [errors.NotSingle, {}])
            self.assertEqual(told(console), before)
        self.assertEqual(console.execute("undo"), "ok")

    def test_sure(self):
        console = begun("sure 1 8: 3 3 1 1", "give 2")
        before = told(console)
        self.assertEqual(outcome(console.execute, "give 3"), [errors.Doomed, {"by": 3}])
        self.assertEqual(told(console), before)
        console.execute("load 1 8: 3 3 1 1")
        self.assertEqual([console.execute("give 2"), console.execute("give 3"), console.execute("doomed")],
                         ["ok", "ok", "3"])

    def test_give(self):
        console = begun("load 1 6: 3 2 1")
        self.assertEqual([console.execute("give -"), console.execute("state")], ["ok", "moment 1, ran -"])
        self.assertEqual([console.execute("give 0"), console.execute("lags")], ["ok", "0 4 2"])
        before = told(console)
        for word in ["3", "12", "9" * 30]:
            self.assertEqual(outcome(console.execute, f"give {word}"), [errors.InvalidProcess, {}])
        for word in [*NO_WORDS, "- ", " -", "--", "- -", "0 1", "0 ", " 0", "none"]:
            with self.subTest(word=word):
                self.assertEqual(outcome(console.execute, f"give {word}"), NO_COMMAND)
        for command in ["give", "give-", "Give 0", "give0"]:
            self.assertEqual(outcome(console.execute, command), NO_COMMAND)
        self.assertEqual(told(console), before)

    def test_shares(self):
        console = begun("load 1 6: 3 2 1", "run 1")
        before = told(console)
        for text, index in [("2", None), ("2 2", None), ("2 2 1 1", None), (words([0] * 13), None), ("7 0 0", 0),
                            ("3 4 0", 1), ("3 3 1", 2), ("9 9 9", 0), ("9" * 30, None)]:
            self.assertEqual(outcome(console.execute, f"shares {text}"), [errors.InvalidShares, {"index": index}])
        for word in [*NO_WORDS, "-"]:
            for text in [word, f"{word} 2 2", f"2 {word} 2", f"2 2 {word}", f"2 {word}"]:
                with self.subTest(text=text):
                    self.assertEqual(outcome(console.execute, f"shares {text}"), NO_COMMAND)
        for command in ["shares", "shares ", "share 2 2 2", "shares 2  2 2", "shares 2 2 2 ", " shares 2 2 2"]:
            self.assertEqual(outcome(console.execute, command), NO_COMMAND)
        self.assertEqual(told(console), before)
        self.assertEqual([console.execute("shares 0 0 6"), console.execute("run 3")], ["ok", "2 2 2"])

    def test_off(self):
        console = begun("load 1 6: 3 2 1")
        for command, wanted in [("off 2 1 0", "2 0"), ("off", "even"), ("off 0 1 0 2 0 1", "even"), ("off -", "even"),
                                ("off - -", "2 0"), ("off " + words([0] * 1000), "2 0")]:
            with self.subTest(command=command[:20]):
                self.assertEqual(console.execute(command), wanted)
        for text in ["", " ", "3", "0+1", "00", "0 ", " 0", "0  1", "x", "0,1", "--", "+", "9" * 31, words([0] * 1001)]:
            with self.subTest(text=text[:20]):
                self.assertEqual(outcome(console.execute, f"off {text}"), NO_COMMAND)
        # the plan is one of the present shares, and its moments begin at 0
        console.execute("run 4")
        console.execute("shares 1 1 4")
        self.assertEqual([console.execute("off 2 1 0"), console.execute("off 0 1 0")], ["3 2", "2 2"])
        self.assertEqual(console.execute("state"), "moment 4, ran 1")
        console.execute("shares 1 0 4")
        for command in ["off", "off 2", "off 2 1 0"]:
            self.assertEqual(outcome(console.execute, command), NO_COMMAND)

    def test_other_commands(self):
        console = begun("load 1 6: 3 2 1")
        for word in STATES:
            for command in [word + " ", " " + word, word + " 1", word + " -", word.upper(), word + "s", word * 2]:
                with self.subTest(command=command):
                    self.assertEqual(outcome(console.execute, command), NO_COMMAND)
        for command in ["", " ", "  ", "-", "0", "x", "tick", "help", "log", "load\n", "state\n", "execute", "__init__",
                        "begin", "twin", "set_shares 1 1 1"]:
            with self.subTest(command=command):
                self.assertEqual(outcome(console.execute, command), NO_COMMAND)

    def test_no_strings(self):
        console = begun("load 1 6: 3 2 1")
        values = [*NO_LISTS, [], ["state"], ("state",), {"state": 1}]
        for value in [value for value in values if not isinstance(value, str)]:
            with self.subTest(value=value):
                self.assertEqual(outcome(console.execute, value), NO_COMMAND)
                self.assertEqual(outcome(console.execute, command=value), NO_COMMAND)

    def test_lags_below_0(self):
        console = begun("load 1 6: 3 2 1", "run 2")
        self.assertEqual([console.execute("lags"), console.execute("counts")], ["0 -2 2", "1 1 0"])
        console = begun(f"load 1 {10 ** 30 - 1}: {10 ** 29} 1", "give 0")
        self.assertEqual(console.execute("lags"), f"{10 ** 29 - 10 ** 30 + 1} 1")

    def test_limits(self):
        console = begun("sure 1 3000: " + words([250] * 12))
        for _ in range(60):
            self.assertEqual(len(console.execute("run 100").split(" ")), 100)
        self.assertEqual(console.execute("lags"), words([0] * 12))
        for _ in range(60):
            console.execute("undo")
        self.assertEqual(console.execute("state"), "moment 0, ran -")


class Interface(unittest.TestCase):
    def test_names(self):
        self.assertEqual(list(inspect.signature(Console).parameters), [])
        self.assertEqual(list(inspect.signature(Console.execute).parameters), ["self", "command"])
        self.assertTrue(inspect.isfunction(vars(Console)["execute"]))
