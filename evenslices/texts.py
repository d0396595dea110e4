"""Texts of loads and of plans."""

from evenslices.checks import MOST_PROCESSES, MOST_PROCESSORS, MOST_TICKS, check_load, check_plan, is_tick
from evenslices.errors import InvalidSyntax

MOST_DIGITS = 30


def number_of(word):
    """Return the number that a word is, or None if it is none."""
    # other signs count as digits, too, outside of ASCII
    if not word.isascii() or not word.isdigit() or len(word) > MOST_DIGITS:
        return None
    if word.startswith("0") and word != "0":
        return None
    return int(word)


def words_of(text):
    """Return the words of a text."""
    if type(text) is not str:
        raise InvalidSyntax(None)
    return text.split(" ") if text != "" else []


def number_at(words, index, least, most, ending=""):
    """Return the number of a word, from least to most, with an ending behind it; raise InvalidSyntax if it is none."""
    if index == len(words) or not words[index].endswith(ending):
        raise InvalidSyntax(index)
    number = number_of(words[index].removesuffix(ending))
    if number is None or not least <= number <= most:
        raise InvalidSyntax(index)
    return number


def load_of(words):
    """Return the load that words tell."""
    processors = number_at(words, 0, 1, MOST_PROCESSORS)
    period = number_at(words, 1, 1, 10 ** 30 - 1, ":")
    room = processors * period
    shares = []
    # there is at least one share, so without one the word 2 is missing
    for index in range(2, max(3, len(words))):
        if len(shares) == MOST_PROCESSES:
            raise InvalidSyntax(index)
        share = number_at(words, index, 1, min(period, room))
        shares.append(share)
        room -= share
    return processors, period, shares


def plan_of(load, words):
    """Return the plan of a load that words tell."""
    processors, _, shares = load
    plan = []
    for index, word in enumerate(words):
        tick = [] if word == "-" else [number_of(part) for part in word.split("+")]
        if index == MOST_TICKS or not is_tick(tick, processors, len(shares)):
            raise InvalidSyntax(index)
        plan.append(tick)
    return plan


def joined(numbers):
    """Return the text of numbers with single spaces between."""
    return " ".join([str(number) for number in numbers])


def text_of(plan):
    """Return the text of a plan."""
    return " ".join(["+".join([str(process) for process in tick]) if tick else "-" for tick in plan])


def format_load(load):
    """Return the text of a load."""
    check_load(load)
    processors, period, shares = load
    return f"{processors} {period}: {joined(shares)}"


def format_plan(load, plan):
    """Return the text of a plan."""
    check_load(load)
    check_plan(load, plan)
    return text_of(plan)


def parse_load(text):
    """Return the load with a text."""
    return load_of(words_of(text))


def parse_plan(load, text):
    """Return the plan of a load with a text."""
    check_load(load)
    return plan_of(load, words_of(text))
