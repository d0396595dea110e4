"""Round plans: their number, their ascending sequence, their states, and how many of some pairs they have."""

from math import gcd

from evenslices.checks import check_groups, check_load, check_number, check_pairs, check_process
from evenslices.errors import InvalidNumber
from evenslices.groups import bounds_of
from evenslices.loads import rounded_up
from evenslices.plans import check_round, ticks_of
from evenslices.rounds import Rounds, bits_of, members_of, ways_on, ways_to

MOST_TWO = 2000


def count_plans(load):
    """Return the number of round plans."""
    check_load(load)
    return ways_on(Rounds(load))[0][0]


def sorted_moves(moves):
    """Return the tuples (processes that run, state behind it) of moves, in the sequence in which plans have them."""
    return sorted([(members_of(row), after) for row, after in moves])


def plan_at(rounds, ways, number):
    """Return the round plan with a number in ascending sequence."""
    plan = []
    state = 0
    for tick, moves in enumerate(rounds.moves):
        for row, after in sorted_moves(moves[state]):
            many = ways[tick + 1][after]
            if number < many:
                plan.append(row)
                state = after
                break
            number -= many
    return plan


def least_plan(load):
    """Return the least round plan."""
    check_load(load)
    rounds = Rounds(load)
    return plan_at(rounds, ways_on(rounds), 0)


def nth_plan(load, number):
    """Return the round plan with a number in ascending sequence."""
    check_load(load)
    check_number(number, "number")
    rounds = Rounds(load)
    ways = ways_on(rounds)
    if number >= ways[0][0]:
        raise InvalidNumber("there are not so many round plans")
    return plan_at(rounds, ways, number)


def plan_number(load, plan):
    """Return the number of a round plan in ascending sequence."""
    check_load(load)
    check_round(load, plan, ticks_of(load, plan))
    rounds = Rounds(load)
    ways = ways_on(rounds)
    number = 0
    state = 0
    for tick, moves in enumerate(rounds.moves):
        for row, after in sorted_moves(moves[state]):
            if row == plan[tick]:
                state = after
                break
            number += ways[tick + 1][after]
    return number


def count_with(load, process, number, tick):
    """Return the number of round plans in which a slice of a process is at a tick."""
    check_load(load)
    check_process(load, process)
    check_number(number, "number", load[2][process] - 1)
    check_number(tick, "tick")
    if tick >= load[1]:
        return 0
    rounds = Rounds(load)
    ways = ways_on(rounds)[tick + 1]
    total = 0
    for state, begun in ways_to(rounds, tick).items():
        if rounds.counts_at(tick, state)[process] == number:
            moves = rounds.moves[tick][state]
            total += begun * sum([ways[after] for row, after in moves if row >> process & 1])
    return total


def count_states(load, moment):
    """Return how many lists of counts some even plan without end has at a moment."""
    check_load(load)
    check_number(moment, "moment")
    # each plan comes to the same state at the end of each round, so what can be at a moment can be in the first round
    ways = ways_on(Rounds(load))[moment % load[1]]
    return len([state for state in ways if ways[state] > 0])


def kept_rows(load, groups, sizes):
    """Return for each set of processes whether it keeps the groups in a tick."""
    families = [*groups, list(range(len(load[2])))]
    bounds = [(bits_of(family), ends) for family, ends in zip(families, bounds_of(load, families))]
    return [
        all([least <= sizes[row & family] <= most for family, (least, most) in bounds]) for row in range(len(sizes))
    ]


def greatest_sum(load, groups, pairs, sign):
    """Return the greatest number of pairs, times the sign, that a round plan has that keeps the groups."""
    rounds = Rounds(load)
    sizes = rounds.sizes
    kept = kept_rows(load, groups, sizes)
    wanted = [0] * load[1]
    for tick, process in pairs:
        wanted[tick] += 1 << process
    best = {0: 0}
    for tick in reversed(range(load[1])):
        ahead = best
        best = {}
        for state, moves in rounds.moves[tick].items():
            sums = [
                sign * sizes[row & wanted[tick]] + ahead[after] for row, after in moves if kept[row] and after in ahead
            ]
            if sums:
                best[state] = max(sums)
    return best[0]


def check_pairs_of(load, groups, pairs):
    """Raise the error of the first parameter that is wrong."""
    check_load(load)
    check_groups(load, groups)
    check_pairs(load, pairs)


def most_pairs(load, groups, pairs):
    """Return the greatest number of pairs (tick, process) that a round plan has that keeps the groups."""
    check_pairs_of(load, groups, pairs)
    return greatest_sum(load, groups, pairs, 1)


def least_pairs(load, groups, pairs):
    """Return the least number of pairs (tick, process) that a round plan has that keeps the groups."""
    check_pairs_of(load, groups, pairs)
    return -greatest_sum(load, groups, pairs, -1)


def check_two(part, period):
    """Raise InvalidNumber unless part and period make a load of two processes."""
    check_number(period, "period", MOST_TWO, least=2)
    check_number(part, "part", period - 1, least=1)


def lengths_of(part, period):
    """Return the numbers of ticks in the windows of a process with the share part."""
    return [rounded_up((number + 1) * period, part) - number * period // part for number in range(part)]


def window_lengths(part, period):
    """Return the numbers of ticks in the windows of the first of two processes."""
    check_two(part, period)
    return lengths_of(part, period)


def count_two(part, period):
    """Return the number of round plans of two processes, the first one with the share part, the other with the rest."""
    check_two(part, period)
    divisor = gcd(part, period)
    ahead, number = 0, 1
    for length in lengths_of(part // divisor, period // divisor):
        ahead, number = number, length * number - ahead
    # both lags are 0 at the end of each of the equal parts of a round, so each of them has its plan by itself
    total = 1
    for _ in range(divisor):
        total *= number
    return total
