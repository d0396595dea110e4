"""Point 37."""

import unittest
from random import Random

from evenslices import errors
from evenslices.texts import format_load, format_plan, parse_load, parse_plan
from tests.helpers import BIG, NO_LISTS, NO_LOADS, NO_PLANS, drawn_load, outcome, small_loads

PAIR = (2, 3, [2, 2, 2])
FOUR = (2, 4, [2, 2, 2, 2])

# words that are not of the form of a number
NO_WORDS = ["", "-", "+", "+1", "-1", "01", "00", "1_0", "1.0", "1,", ",1", "x", "0x1", "1e1", "1:", "1:1", "\u0661",
            "\u00b2", "\u0967", "1\u0661", "\uff11", "None", "1\t", "1\n", "\n", "(1)", "9" * 31, "1" + "0" * 30]


def syntax(word):
    return [errors.InvalidSyntax, {"word": word}]


class ThereAndBack(unittest.TestCase):
    def test_loads(self):
        draw = Random(37)
        loads = [
            *small_loads(1, 4, 3), *small_loads(3, 2, 4), *[drawn_load(draw, 12, 10 ** 30 - 1, 12) for _ in range(100)],
            (12, BIG, [BIG] * 12), (1, BIG, [BIG]), (1, 1, [1]), (12, 1, [1] * 12), (1, 10 ** 29, [10 ** 28] * 10),
        ]
        for load in loads:
            processors, period, shares = load
            text = str(processors) + " " + str(period) + ": " + " ".join(map(str, shares))
            with self.subTest(text=text):
                self.assertEqual(format_load(load), text)
                told = parse_load(text)
                self.assertEqual(told, load)
                self.assertEqual([type(told), type(told[2])], [tuple, list])

    def test_plans(self):
        draw = Random(370)
        for many in [0, 1, 2, 10, 1000]:
            for load in [PAIR, FOUR, (12, 2, [2] * 11 + [1]), (1, 1, [1])]:
                processors, _, shares = load
                plan = [
                    sorted(draw.sample(range(len(shares)), draw.randint(0, min(processors, len(shares)))))
                    for _ in range(many)
                ]
                text = " ".join("+".join(map(str, tick)) or "-" for tick in plan)
                with self.subTest(load=load, many=many):
                    self.assertEqual(format_plan(load, plan), text)
                    self.assertEqual(parse_plan(load, text), plan)

    def test_some_texts(self):
        self.assertEqual(format_plan(PAIR, []), "")
        self.assertEqual(parse_plan(PAIR, ""), [])
        self.assertEqual(parse_plan(PAIR, "-"), [[]])
        self.assertEqual(format_plan((12, 1, [1] * 12), [list(range(12))]), "0+1+2+3+4+5+6+7+8+9+10+11")
        self.assertEqual(parse_plan((12, 1, [1] * 12), "- 0+10+11"), [[], [0, 10, 11]])


class WrongLoads(unittest.TestCase):
    def check(self, text, word):
        with self.subTest(text=text):
            self.assertEqual(outcome(parse_load, text), syntax(word))
            self.assertEqual(outcome(parse_load, text=text), syntax(word))

    def test_no_strings(self):
        for value in [value for value in [*NO_LISTS, [], ["1", "6:", "1"], b"1 6: 1"] if not isinstance(value, str)]:
            self.check(value, None)

    def test_each_word(self):
        right = ["2", "9:", "3", "4", "5"]
        for at in range(5):
            for word in NO_WORDS:
                if at == 1:
                    if word != "1:":
                        self.check(" ".join([*right[:at], word, *right[at + 1:]]), at)
                    word += ":"
                self.check(" ".join([*right[:at], word, *right[at + 1:]]), at)

    def test_numbers_out_of_their_ranges(self):
        for word in ["0", "13", "9" * 30]:
            self.check(f"{word} 9: 3 4 5", 0)
            self.check(word, 0)
        self.check("2 0: 3", 1)
        for share in ["0", "10", "9" * 30]:
            for at in range(3):
                shares = ["3", "4", "5"]
                shares[at] = share
                self.check("2 9: " + " ".join(shares), 2 + at)

    def test_colons(self):
        for text, word in [
            ("2 9 3", 1), ("2 9 : 3", 1), ("2 :9 3", 1), ("2 9:: 3", 1), ("2: 9: 3", 0), ("2 9: 3:", 2), ("2 : 3", 1),
            ("2 9:3", 1), ("2 9: :", 2),
        ]:
            self.check(text, word)

    def test_blanks(self):
        for text, word in [
            (" ", 0), ("  ", 0), (" 2 9: 3", 0), ("2  9: 3", 1), ("2 9:  3", 2), ("2 9: 3 ", 3), ("2 9: 3  4", 3),
            ("2 9: ", 2), ("2 ", 1), ("2 9: 3 4 ", 4),
        ]:
            self.check(text, word)

    def test_texts_that_end_too_early(self):
        for text, word in [("", 0), ("2", 1), ("2 9:", 2)]:
            self.check(text, word)

    def test_sums_that_are_too_great(self):
        self.check("1 6: 3 2 2", 4)
        self.check("1 6: 6 1", 3)
        self.check("2 6: 6 6 1", 4)
        self.check("1 6: 3 3 0", 4)
        self.check("1 6: 3 4 x", 3)
        self.check(f"1 {BIG}: {BIG} 1", 3)
        self.assertEqual(parse_load(f"2 {BIG}: {BIG} {BIG}"), (2, BIG, [BIG, BIG]))

    def test_one_word_too_many(self):
        self.check("12 9: " + " ".join(["1"] * 13), 14)
        self.check("12 9: " + " ".join(["1"] * 20), 14)
        self.check("12 9: " + " ".join(["1"] * 12 + ["x"]), 14)
        self.check("12 9: " + " ".join(["1"] * 11 + ["x", "1"]), 13)

    def test_the_first_wrong_word_counts(self):
        self.check("x 9 x", 0)
        self.check("2 x: x", 1)
        self.check("2 9: x y", 2)
        self.check("13 0: 0", 0)


class WrongPlans(unittest.TestCase):
    def check(self, text, word, load=PAIR):
        with self.subTest(text=text, load=load):
            self.assertEqual(outcome(parse_plan, load, text), syntax(word))
            self.assertEqual(outcome(parse_plan, load=load, text=text), syntax(word))

    def test_no_strings(self):
        for value in [value for value in [*NO_LISTS, [], [[0]], b"0"] if not isinstance(value, str)]:
            self.check(value, None)

    def test_each_word(self):
        right = ["0+2", "-", "1", "0+1"]
        for at in range(4):
            for word in NO_WORDS:
                if word != "-":
                    self.check(" ".join([*right[:at], word, *right[at + 1:]]), at)
                for tick in ["0+" + word, word + "+2", "+" + word, word + "+"]:
                    self.check(" ".join([*right[:at], tick, *right[at + 1:]]), at)

    def test_processes(self):
        # out of sequence, twice, too many, none such
        for word in ["1+0", "0+0", "0+1+2", "3", "0+3", "2+1", "12", "9" * 30, "0-1", "0+ 1"]:
            self.check("0+1 " + word, 1)
        for word in ["0+1", "2", "0+1+2"]:
            self.check(word, 0, (1, 3, [1, 2]))
        self.check("0+1 0 +1", 2)

    def test_blanks(self):
        for text, word in [(" ", 0), (" 0", 0), ("0 ", 1), ("0  1", 1), ("- - ", 2), ("  ", 0)]:
            self.check(text, word)

    def test_many_ticks(self):
        self.assertEqual(parse_plan(PAIR, " ".join(["0+2"] * 1000)), [[0, 2]] * 1000)
        self.check(" ".join(["0+2"] * 1001), 1000)
        self.check(" ".join(["0"] * 1000 + ["x"]), 1000)
        self.check(" ".join(["0"] * 999 + ["x", "0"]), 999)
        self.check(" ".join(["0"] * 1000) + " ", 1000)

    def test_the_load_comes_first(self):
        for value, index in NO_LOADS:
            for text in ["0", "x", None, 5]:
                self.assertEqual(outcome(parse_plan, value, text), [errors.InvalidLoad, {"index": index}])


class WrongValues(unittest.TestCase):
    def test_format_load(self):
        for value, index in NO_LOADS:
            self.assertEqual(outcome(format_load, value), [errors.InvalidLoad, {"index": index}])

    def test_format_plan(self):
        for value, index in NO_LOADS:
            for plan in [[[0]], [[9]], None]:
                self.assertEqual(outcome(format_plan, value, plan), [errors.InvalidLoad, {"index": index}])
        for value, index in NO_PLANS:
            self.assertEqual(outcome(format_plan, FOUR, value), [errors.InvalidPlan, {"index": index}])
