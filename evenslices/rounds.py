"""All round plans of a load, as ways through the states of its moments.

A state is a set of processes, written as the bits of an integer: those whose count is what is due to them rounded up,
and not the same rounded down. Rows, the processes that run in a tick, are written as bits, too.
"""


def sizes_of(many):
    """Return for each set of so many processes how many processes it has."""
    sizes = [0]
    for _ in range(many):
        sizes = sizes + [size + 1 for size in sizes]
    return sizes


def bits_of(members):
    """Return a set of processes as bits."""
    return sum([1 << process for process in members])


def members_of(bits):
    """Return the ascending list of the processes of a set."""
    return [process for process in range(bits.bit_length()) if bits >> process & 1]


def parts_of(bits):
    """Return all sets of which all processes are in a set."""
    parts = [0]
    part = bits
    while part:
        parts.append(part)
        part = (part - 1) & bits
    return parts


class Rounds:
    """The ways from the beginning of a round to its end.

    moves tells for each tick and each state ahead of it that can be reached the tuples (row, state behind it). sizes
    tells how many processes each set has.
    """

    def __init__(self, load):
        self.load = load
        self.sizes = sizes_of(len(load[2]))
        self.parts = {}
        self.moves = []
        states = [0]
        for tick in range(load[1]):
            self.moves.append(self.moves_at(tick, states))
            states = sorted({state for moves in self.moves[tick].values() for _, state in moves})

    def moves_at(self, tick, states):
        """Return for each of some states the rows that can run in a tick, with the states that they lead to."""
        processors, period, shares = self.load
        dues = [share * tick // period for share in shares]
        afters = [share * (tick + 1) // period for share in shares]
        broken = [share * (tick + 1) % period > 0 for share in shares]
        waits = bits_of([process for process, due in enumerate(dues) if afters[process] == due])
        grows = (len(self.sizes) - 1) ^ waits
        # at a whole number there is no rounding up, so there a process that is ahead has to wait
        spare = bits_of([process for process in members_of(grows) if broken[process]])
        # what is not done by the end of this tick must fit into the rest of the round
        least = sum(shares) - sum(dues) - processors * (period - tick - 1)
        return {state: self.moves_from(state, waits, grows, spare, least) for state in states}

    def moves_from(self, state, waits, grows, spare, least):
        """Return the tuples (row, state behind it) of the rows that can run from a state on.

        A process of which the due rounded down grows must run if its count is just this, and one of which it stays
        the same cannot run if its count is above it.
        """
        sizes = self.sizes
        must = grows & ~state
        may = (waits & ~state) | (spare & state)
        kept = state & waits
        room = self.load[0] - sizes[must]
        short = least - sizes[state] - sizes[must]
        if may not in self.parts:
            self.parts[may] = parts_of(may)
        return [(must | part, kept | part) for part in self.parts[may] if short <= sizes[part] <= room]

    def counts_at(self, tick, state):
        """Return the counts that a state tells at a moment."""
        _, period, shares = self.load
        return [share * tick // period + (state >> process & 1) for process, share in enumerate(shares)]


def ways_on(rounds):
    """Return for each moment of a round, and each state that can be reached there, the number of ways to the end."""
    ways = [{0: 1}]
    for moves in reversed(rounds.moves):
        ahead = ways[-1]
        ways.append({state: sum([ahead[after] for _, after in found]) for state, found in moves.items()})
    ways.reverse()
    return ways


def ways_to(rounds, moment):
    """Return for each state that can be reached at a moment of a round the number of ways to it."""
    ways = {0: 1}
    for moves in rounds.moves[:moment]:
        behind = {}
        for state, found in moves.items():
            for _, after in found:
                behind[after] = behind.get(after, 0) + ways[state]
        ways = behind
    return ways
