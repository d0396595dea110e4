"""Dispatchers: loads on one processor that are run tick by tick."""

from evenslices.changes import check_shares
from evenslices.checks import check_load, check_number, check_single, is_integer_from
from evenslices.errors import Doomed, Early, InvalidProcess, Missed, NothingToUndo, Tired
from evenslices.lagging import failing, first_end, lags_behind, not_even


def doom(moment, lags, shares, period):
    """Return the moment by which the processes are doomed with these lag numbers at a moment, or None."""
    ticks = failing(lags, shares, period, period)
    return None if ticks is None else moment + ticks


class Dispatcher:
    """A load on one processor that is run tick by tick.

    The lists of a state are never changed, only replaced: so what undo goes back to, and what twins share, stays.
    """

    def __init__(self, load):
        check_load(load)
        check_single(load)
        _, period, shares = load
        self._period = period
        self._first = list(shares)
        self._shares = self._first
        self._moment = 0
        self._counts = [0] * len(shares)
        self._lags = [0] * len(shares)
        # the process of the last tick, and how many ticks it ran one after another
        self._ran = None
        self._row = 0
        self._calls = []
        self._past = []

    @property
    def moment(self):
        """The moment now."""
        return self._moment

    @property
    def counts(self):
        """The counts of all processes now."""
        return list(self._counts)

    @property
    def lags(self):
        """The lag numbers of all processes now."""
        return list(self._lags)

    @property
    def shares(self):
        """The shares of all processes now."""
        return list(self._shares)

    @property
    def period(self):
        """The period, which stays the same."""
        return self._period

    @property
    def log(self):
        """The calls that are not reverted, as tuples."""
        return [(word, list(told) if word == "shares" else told) for word, told in self._calls]

    @property
    def doomed(self):
        """The moment by which the processes are doomed, or None if they can go on."""
        return doom(self._moment, self._lags, self._shares, self._period)

    def __len__(self):
        return len(self._calls)

    def __eq__(self, other):
        if not isinstance(other, Dispatcher):
            return False
        return type(self) is type(other) and self._state() == other._state()

    def _state(self):
        """Return what is the same in equal dispatchers."""
        return self._moment, self._period, self._lags, self._shares, self._counts

    def _become(self, other):
        """Take the state of another dispatcher of the same load, and what it can revert."""
        self._shares = other._shares
        self._moment = other._moment
        self._counts = other._counts
        self._lags = other._lags
        self._ran = other._ran
        self._row = other._row
        self._calls = list(other._calls)
        self._past = list(other._past)

    def _beginning(self):
        """Return the load of the beginning."""
        return 1, self._period, self._first

    def _keep(self, word, told):
        """Keep a call that is about to change the state."""
        self._calls.append((word, told))
        self._past.append((self._shares, self._moment, self._counts, self._lags, self._ran, self._row))

    def _check_turn(self, process):
        """Raise an error unless a process, or none for None, can run in this tick."""
        if process is None:
            return
        if not is_integer_from(process, 0, len(self._shares) - 1):
            raise InvalidProcess("not a process of the load")
        if self._lags[process] + self._shares[process] <= 0:
            raise Early("the next slice of the process has not begun")

    def _behind(self, process):
        """Return the lag numbers behind a tick in which a process runs, or none for None.

        Raise Missed unless all processes are even with them.
        """
        lags = lags_behind(self._lags, self._shares, self._period, process)
        missed = not_even(lags, self._period)
        if missed is not None:
            raise Missed(missed)
        return lags

    def _run(self, process):
        """Run a tick with a process, or with none for None."""
        lags = self._behind(process)
        self._keep("give", process)
        self._moment += 1
        self._lags = lags
        if process is None:
            self._row = 0
        else:
            self._row = self._row + 1 if process == self._ran else 1
            self._counts = [count + (1 if at == process else 0) for at, count in enumerate(self._counts)]
        self._ran = process

    def tick(self):
        """Run the process whose slice has begun and ends first, and return it, or None."""
        process = first_end(self._lags, self._shares, self._period)
        self._run(process)
        return process

    def give(self, process):
        """Run one tick in which a process runs, or none for None."""
        self._check_turn(process)
        self._run(process)

    def set_shares(self, shares):
        """Set the shares from this moment on."""
        check_shares(shares, len(self._shares), self._period)
        by = doom(self._moment, self._lags, shares, self._period)
        if by is not None:
            raise Doomed(by)
        told = list(shares)
        self._keep("shares", told)
        self._shares = told

    def undo(self):
        """Revert the last call that is not reverted."""
        if not self._calls:
            raise NothingToUndo("there is no call to revert")
        self._calls.pop()
        self._shares, self._moment, self._counts, self._lags, self._ran, self._row = self._past.pop()

    def twin(self):
        """Return a dispatcher in the same state, which can revert the same calls."""
        other = Dispatcher(self._beginning())
        other._become(self)
        return other

    def described(self):
        """Return strings that tell the moment and the process of the last tick."""
        ran = "-" if self._ran is None else str(self._ran)
        return [f"moment {self._moment}", f"ran {ran}"]


class SureDispatcher(Dispatcher):
    """A dispatcher that gives no tick with which the processes could not go on."""

    def __init__(self, load):
        Dispatcher.__init__(self, load)

    def tick(self):
        """Run a tick as Dispatcher does, without a look at whether the processes can go on."""
        return super().tick()

    def give(self, process):
        """Run one tick in which a process runs, or none for None, if the processes can go on behind it."""
        self._check_turn(process)
        by = doom(self._moment + 1, self._behind(process), self._shares, self._period)
        if by is not None:
            raise Doomed(by)
        self._run(process)

    def twin(self):
        """Return a dispatcher in the same state, which can revert the same calls."""
        other = SureDispatcher(self._beginning())
        other._become(self)
        return other


class RestingDispatcher(Dispatcher):
    """A dispatcher in which no process runs in more than `most` ticks one after another."""

    def __init__(self, load, most):
        check_load(load)
        check_number(most, "most", least=1)
        Dispatcher.__init__(self, load)
        self._most = most

    @property
    def most(self):
        """In how many ticks one after another a process can run."""
        return self._most

    def _state(self):
        """Return what is the same in equal dispatchers."""
        state = super()._state()
        return state, self._most, self._ran, self._row

    def _tired(self):
        """Return the process that ran in so many of the last ticks that it cannot run now, or None."""
        return self._ran if self._row >= self._most else None

    def _check_turn(self, process):
        """Raise an error unless a process, or none for None, can run in this tick."""
        super()._check_turn(process)
        if process is not None and process == self._tired():
            raise Tired(process)

    def tick(self):
        """Run the process whose slice has begun and ends first, of those that are not tired, and return it, or None."""
        process = first_end(self._lags, self._shares, self._period, self._tired())
        self._run(process)
        return process

    def give(self, process):
        """Run one tick in which a process runs that is not tired, or none for None."""
        super().give(process)

    def twin(self):
        """Return a dispatcher in the same state, which can revert the same calls."""
        other = RestingDispatcher(self._beginning(), self._most)
        other._become(self)
        return other

    def described(self):
        """Return strings that tell the moment, the process of the last tick and how long it ran."""
        strings = super().described()
        return [*strings, f"row {self._row}"]


class SureRestingDispatcher(SureDispatcher, RestingDispatcher):
    """A dispatcher that is sure and lets its processes rest."""

    def __init__(self, load, most):
        RestingDispatcher.__init__(self, load, most)

    @property
    def most(self):
        """In how many ticks one after another a process can run."""
        return self._most

    def tick(self):
        """Run a tick as RestingDispatcher does, without a look at whether the processes can go on."""
        return super().tick()

    def give(self, process):
        """Run one tick in which a process runs that is not tired, or none for None, if the processes can go on."""
        super().give(process)

    def twin(self):
        """Return a dispatcher in the same state, which can revert the same calls."""
        other = SureRestingDispatcher(self._beginning(), self._most)
        other._become(self)
        return other

    def described(self):
        """Return strings that tell the moment, the process of the last tick and how long it ran."""
        return super().described()
