"""A net: arcs between nodes, and the search for a path by which one person more can be sent."""

# Stands in the place of an arc's number where a search begins, so that a path is followed back no further.
BEGIN = "begin"


class Net:
    def __init__(self, nodes):
        self.nodes = list(nodes)
        self.numbers = {}
        for number, node in enumerate(nodes):
            self.numbers[node] = number
        self.arcs_from = [[] for node in nodes]
        # Arcs come in pairs: an even one leads on, the odd one behind it leads back. What room is left on the one
        # that leads back is how many take the other, so that they can be sent otherwise.
        self.heads = []
        self.rooms = []
        # What an arc costs beside the prices of its two nodes.
        self.costs = []
        self.arc_of = {}

    def link(self, key, tail, head, room, cost):
        arc = len(self.heads)
        self.arc_of[key] = arc
        self.arcs_from[self.numbers[tail]].append(arc)
        self.arcs_from[self.numbers[head]].append(arc + 1)
        self.heads.extend([self.numbers[head], self.numbers[tail]])
        self.rooms.extend([room, 0])
        self.costs.extend([cost, -cost])

    def send(self, arc, many):
        self.rooms[arc] = self.rooms[arc] - many
        self.rooms[arc ^ 1] = self.rooms[arc ^ 1] + many

    def taken(self, key):
        return self.rooms[self.arc_of[key] + 1]

    def all_taken(self):
        many_by_key = {}
        for key, arc in self.arc_of.items():
            if self.rooms[arc + 1] > 0:
                many_by_key[key] = self.rooms[arc + 1]
        return many_by_key

    def next_level(self, level, came):
        rooms = self.rooms
        costs = self.costs
        heads = self.heads
        following = []
        for node in level:
            for arc in self.arcs_from[node]:
                if rooms[arc] > 0 and costs[arc] == 0 and came[heads[arc]] is None:
                    came[heads[arc]] = arc
                    following.append(heads[arc])
        return following

    # For each node the arc by which it is come to over arcs that have room and cost nothing, None where it is not.
    # It ends as soon as a goal is come to; so where none is, each node is come to that can be.
    def search(self, starts, goals):
        came = [None] * len(self.nodes)
        for node in starts:
            came[node] = BEGIN
        level = starts
        while len(level) > 0 and not any([node in goals for node in level]):
            level = self.next_level(level, came)
        return came

    # Sends one person along the path that was searched, and tells the node at which it begins.
    def send_one(self, came, goal):
        node = goal
        while came[node] != BEGIN:
            arc = came[node]
            self.send(arc, 1)
            node = self.heads[arc ^ 1]
        return node
