"""Networks through which whole units flow in circles, as many through each link as it allows."""


class Network:
    """Nodes numbered from 0, and links between them, each with its flow and with the least and the most of it.

    Each link has two darts side by side in number: one leads along it, the other one against it. The room of a
    dart tells how much more can flow its way; it is below 0 if too much flows already.
    """

    def __init__(self, nodes):
        self.darts = [[] for _ in range(nodes)]
        self.goals = []
        self.rooms = []

    def link(self, tail, head, flow, least, most):
        """Add a link, and return the number of its dart against it: with least 0, its room is the flow."""
        along = len(self.goals)
        self.goals.extend([head, tail])
        self.rooms.extend([most - flow, flow - least])
        self.darts[tail].append(along)
        self.darts[head].append(along + 1)
        return along + 1

    def search(self, start, goal):
        """Return for each node that was reached from the start, until the goal was, the dart that led to it."""
        goals, rooms = self.goals, self.rooms
        came = {start: None}
        queue = [start]
        at = 0
        while at < len(queue) and goal not in came:
            for dart in self.darts[queue[at]]:
                if rooms[dart] > 0 and goals[dart] not in came:
                    came[goals[dart]] = dart
                    queue.append(goals[dart])
            at += 1
        return came

    def push(self, dart):
        """Let one more unit flow the way of a dart."""
        self.rooms[dart] -= 1
        self.rooms[dart ^ 1] += 1

    def repair(self):
        """Change the flow until no room is below 0; None if that is done, otherwise the nodes that stand against it.

        Units only flow in circles, so at each node as much arrives as leaves, if it was so at first.
        """
        for dart in range(len(self.goals)):
            while self.rooms[dart] < 0:
                node = self.goals[dart]
                came = self.search(self.goals[dart ^ 1], node)
                if node not in came:
                    return sorted(came)
                self.push(dart ^ 1)
                while came[node] is not None:
                    self.push(came[node])
                    node = self.goals[came[node] ^ 1]
        return None
