"""Fitting slices with windows into ticks, within bounds for groups of processes."""

from evenslices.loads import rounded_up
from evenslices.networks import Network


class Task:
    """What is asked of a plan.

    windows has for each process the tuples (first tick, last tick) of its slices, ascending; a slice whose window
    ends behind the last tick can be left out. caps tells for each tick how many processes can run in it. closed has
    the tuples (tick, process) of the ticks in which a process cannot run. Each item of groups is a tuple of a list of
    processes and of the least and the most number of them that run in each tick; any two of these lists have no
    common process, or one is within the other.
    """

    def __init__(self, windows, caps, closed=(), groups=()):
        many = len(caps)
        # behind the slices of each process stands one that never begins, so that each process has a next slice
        self.windows = [[*slices, (many, many)] for slices in windows]
        self.caps = caps
        self.closed = {cell: True for cell in closed}
        self.groups = groups
        self.chains = [self.chain(process) for process in range(len(windows))]

    def chain(self, process):
        """Return the numbers of the groups that a process is in, the smallest first."""
        found = [(len(group[0]), index) for index, group in enumerate(self.groups) if process in group[0]]
        return [index for _, index in sorted(found)]

    def heads(self, done, tick):
        """Return the tuples (last tick, process) of the next slices that can be at a tick, those that end first first.

        done tells how many slices each process has behind it.
        """
        nexts = [slices[number] for slices, number in zip(self.windows, done)]
        return sorted([
            (last, process) for process, (first, last) in enumerate(nexts)
            if first <= tick and (tick, process) not in self.closed
        ])

    def late(self, done, tick):
        """Return whether the window of the next slice of some process ends by a tick."""
        return any([slices[number][1] <= tick for slices, number in zip(self.windows, done)])

    def bounds(self, process):
        """Return for each moment the least and the greatest count of a process that its windows let it have."""
        many = len(self.caps)
        ended = counted([last for _, last in self.windows[process]], many)
        begun = counted([first for first, _ in self.windows[process]], many)
        return list(zip(ended, begun))


def counted(ticks, many):
    """Return for each moment from 0 to many how many of the ticks are ahead of it."""
    numbers = [0] * (many + 1)
    for tick in ticks:
        if tick < many:
            numbers[tick + 1] += 1
    for moment in range(many):
        numbers[moment + 1] += numbers[moment]
    return numbers


def chosen(task, heads, cap):
    """Return the first processes of the heads for which there is room, ascending, and whether that will do."""
    numbers = [0] * len(task.groups)
    row = []
    for _, process in heads:
        chain = task.chains[process]
        if len(row) < cap and all([numbers[index] < task.groups[index][2] for index in chain]):
            row.append(process)
            for index in chain:
                numbers[index] += 1
    short = any([number < group[1] for number, group in zip(numbers, task.groups)])
    return sorted(row), not short


def first_ends(task):
    """Return a plan in which the slices whose windows end first come first, and whether it is what the task asks.

    With one processor and without closed ticks there is no plan for the task if this is none.
    """
    done = [0] * len(task.windows)
    plan = []
    good = True
    for tick, cap in enumerate(task.caps):
        row, enough = chosen(task, task.heads(done, tick), cap)
        for process in row:
            done[process] += 1
        plan.append(row)
        good = good and enough and not task.late(done, tick)
    return plan, good


class Fit:
    """The network of a task, with the flow of a plan.

    The count of a process at each moment flows into the tick ahead of it; there one unit turns to the process's
    smallest group if it runs, and the rest flows to the tick ahead. What reaches a group flows to the group around
    it, and at last to node 0, where all counts at the end come from.
    """

    def __init__(self, task, plan):
        self.task = task
        self.ticks = len(plan)
        self.hub = 1 + self.ticks * len(task.windows)
        self.network = Network(self.hub + self.ticks * (len(task.groups) + 1))
        self.cells = []
        for process in range(len(task.windows)):
            self.link_process(process, plan)
        for tick, row in enumerate(plan):
            self.link_tick(tick, row)

    def cell_node(self, tick, process):
        return 1 + self.ticks * process + tick

    def group_node(self, tick, chain):
        """Return the node of the first group of a chain in a tick, or of all processes behind it."""
        index = chain[0] if chain else len(self.task.groups)
        return self.hub + (len(self.task.groups) + 1) * tick + index

    def link_process(self, process, plan):
        task = self.task
        bounds = task.bounds(process)
        chain = task.chains[process]
        count = 0
        for tick, row in enumerate(plan):
            node = self.cell_node(tick, process)
            runs = 1 if process in row else 0
            most = 0 if (tick, process) in task.closed else 1
            dart = self.network.link(node, self.group_node(tick, chain), runs, 0, most)
            self.cells.append((tick, process, dart))
            count += runs
            least, most = bounds[tick + 1]
            source = node + 1 if tick + 1 < self.ticks else 0
            self.network.link(source, node, count, least, most)

    def link_tick(self, tick, row):
        task = self.task
        for index, (group, least, most) in enumerate(task.groups):
            chain = task.chains[group[0]]
            around = chain[chain.index(index) + 1:]
            flow = len([process for process in row if process in group])
            self.network.link(self.group_node(tick, [index]), self.group_node(tick, around), flow, least, most)
        self.network.link(self.group_node(tick, []), 0, len(row), 0, task.caps[tick])

    def plan(self):
        """Return the plan of the flow."""
        rows = [[] for _ in range(self.ticks)]
        for tick, process, dart in self.cells:
            if self.network.rooms[dart] > 0:
                rows[tick].append(process)
        return rows

    def full_ticks(self, nodes):
        """Return the ticks whose node of all processes is among the nodes."""
        return [tick for tick in range(self.ticks) if self.group_node(tick, []) in nodes]


def fitted(task):
    """Return the tuple of a plan for a task and None; or of None and of ticks that show that there is none.

    They show it if the task has no groups: then the windows ask for more slices in these ticks than their caps are
    together.
    """
    plan, good = first_ends(task)
    if good:
        return plan, None
    fit = Fit(task, plan)
    stuck = fit.network.repair()
    if stuck is None:
        return fit.plan(), None
    return None, fit.full_ticks(stuck)


def most_at(windows, ticks):
    """Return how many slices with these windows can be at the ticks, at most one at each.

    Windows and ticks are ascending. At each tick it is the first slice that can be there and is not yet anywhere.
    """
    found = 0
    at = 0
    for tick in ticks:
        while at < len(windows) and windows[at][1] < tick:
            at += 1
        if at < len(windows) and windows[at][0] <= tick:
            at += 1
            found += 1
    return found


def slice_windows(share, period):
    """Return the windows of all slices of one round of a process."""
    return [
        (number * period // share, rounded_up((number + 1) * period, share) - 1) for number in range(share)
    ]


def round_windows(load):
    """Return for each process of a load the windows of its slices of one round."""
    _, period, shares = load
    return [slice_windows(share, period) for share in shares]
