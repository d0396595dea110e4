"""A console that runs commands on a dispatcher."""

from evenslices.dispatchers import Dispatcher, SureDispatcher
from evenslices.errors import InvalidCommand, InvalidSyntax, NothingToUndo
from evenslices.plans import first_off
from evenslices.texts import joined, load_of, number_of, plan_of, text_of

MOST_RUN = 100


def check_end(words):
    """Raise InvalidCommand if there are words where a command has none."""
    if words:
        raise InvalidCommand("words too many")


def only_word(words):
    """Return the word of a command that has one behind its name."""
    if len(words) != 1:
        raise InvalidCommand("not one word behind the name")
    return words[0]


def told_number(word):
    """Return the number that a word of a command is."""
    number = number_of(word)
    if number is None:
        raise InvalidCommand("not a number")
    return number


def told_load(words):
    """Return the load that words of a command tell."""
    try:
        return load_of(words)
    except InvalidSyntax:
        raise InvalidCommand("not a load") from None


def told_plan(load, words):
    """Return the plan of a load that words of a command tell."""
    try:
        return plan_of(load, words)
    except InvalidSyntax:
        raise InvalidCommand("not a plan of the load") from None


class Console:
    """A dispatcher that commands run."""

    def __init__(self):
        self._desk = Dispatcher((1, 1, [1]))
        # how many calls of the dispatcher each command made that can be reverted
        self._made = []

    def execute(self, command):
        """Run a command and return its result."""
        if type(command) is not str:
            raise InvalidCommand("not a string")
        actions = {
            "load": self._load, "sure": self._load_sure, "run": self._run, "give": self._give,
            "shares": self._change_shares, "undo": self._revert, "state": self._tell_state,
            "counts": self._tell_counts, "lags": self._tell_lags, "doomed": self._tell_doom, "off": self._tell_off,
        }
        words = command.split(" ")
        action = actions.get(words[0])
        if action is None:
            raise InvalidCommand("no such command")
        return action(words[1:])

    def _begin(self, desk):
        """Take a new dispatcher."""
        self._desk = desk
        self._made = []
        return "ok"

    def _load(self, words):
        return self._begin(Dispatcher(told_load(words)))

    def _load_sure(self, words):
        return self._begin(SureDispatcher(told_load(words)))

    def _run(self, words):
        number = told_number(only_word(words))
        if not 1 <= number <= MOST_RUN:
            raise InvalidCommand("not a number of ticks")
        # a twin runs the ticks, so that none of them is run if one raises an error
        desk = self._desk.twin()
        ran = [desk.tick() for _ in range(number)]
        self._desk = desk
        self._made.append(number)
        return text_of([[] if process is None else [process] for process in ran])

    def _give(self, words):
        word = only_word(words)
        self._desk.give(None if word == "-" else told_number(word))
        self._made.append(1)
        return "ok"

    def _change_shares(self, words):
        if not words:
            raise InvalidCommand("no shares")
        self._desk.set_shares([told_number(word) for word in words])
        self._made.append(1)
        return "ok"

    def _revert(self, words):
        check_end(words)
        if not self._made:
            raise NothingToUndo("there is no command to revert")
        for _ in range(self._made.pop()):
            self._desk.undo()
        return "ok"

    def _tell_state(self, words):
        check_end(words)
        return ", ".join(self._desk.described())

    def _tell_counts(self, words):
        check_end(words)
        return joined(self._desk.counts)

    def _tell_lags(self, words):
        check_end(words)
        return joined(self._desk.lags)

    def _tell_doom(self, words):
        check_end(words)
        moment = self._desk.doomed
        return "none" if moment is None else str(moment)

    def _tell_off(self, words):
        shares = self._desk.shares
        if 0 in shares:
            raise InvalidCommand("a share of 0 makes no load")
        load = (1, self._desk.period, shares)
        off = first_off(load, told_plan(load, words))
        return "even" if off is None else joined(off)
