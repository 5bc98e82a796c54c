"""Plans of the least turns on the way, made in a net in which people who have not set out pass through yards."""

from homequay.heaps import Heap
from homequay.nets import Net
from homequay.steps import moves_of
from homequay.webs import spots_of

# The first words of the keys of those arcs that are steps.
MOVES = ("ride", "walk", "wait")


def yard_of(spot):
    return ("yard", spot[0], spot[1])


# The people who stand at a spot at first, each by the name of the group.
def names_by_spot(table):
    names = {}
    for row in table.groups:
        names.setdefault((row[1], row[2]), []).extend([row[0]] * row[3])
    return names


def go_on(net, row, far, heap):
    for arc in net.arcs_from[row[1]]:
        if net.rooms[arc] > 0:
            head = net.heads[arc]
            way = row[0] + net.costs[arc]
            if far[head] is None or way < far[head]:
                far[head] = way
                heap.put((way, head))


# How far each node is from the begin by arcs that have room, and each that is further than the end as far as that.
def distances(net, begin, end):
    far = [None] * len(net.nodes)
    far[begin] = 0
    heap = Heap()
    heap.put((0, begin))
    row = heap.take()
    while row[1] != end:
        # A node that was found nearer afterwards has an older row, which is passed over.
        if row[0] == far[row[1]]:
            go_on(net, row, far, heap)
        row = heap.take()
    return [row[0] if way is None else min(way, row[0]) for way in far]


# The net of a table by which as many people as are told come home at each turn, with the least turns on the way.
# Most of the steps of a large table are settings out. So each spot has a yard in their place: people come to the yard
# of the spot at which they stand first, go on from it to the yards of later turns, and set out from a yard to its
# spot. Which of the people in a yard set out is settled when the plan is told.
class YardNet:
    def __init__(self, table, comers):
        self.table = table
        self.spots = spots_of(table)
        self.names = names_by_spot(table)
        turns = list(range(table.turns + 1))
        self.net = Net(self.spots + [yard_of(spot) for spot in self.spots] + turns + ["begin", "end"])
        self.prices = [0] * len(self.net.nodes)
        # No arc is taken by more than all people, so with one more it always has room.
        self.room_for_all = table.people() + 1
        self.link_yards()
        self.link_homes(comers)
        for step in moves_of(table):
            self.net.link(step.key(), step.tail(), step.head(), step.room(), step.price())
        self.send(sum(comers))

    def link_yards(self):
        for spot in self.spots:
            yard = yard_of(spot)
            self.net.link(("come", spot), "begin", yard, len(self.names.get(spot, [])), 0)
            self.net.link(("set out", spot), yard, spot, self.room_for_all, 0)
            if spot[1] < self.table.turns:
                self.net.link(("stay", spot), yard, yard_of((spot[0], spot[1] + 1)), self.room_for_all, 0)

    def link_homes(self, comers):
        # At which home of a turn people come is all the same, so each of them leads to the turn.
        for spot in self.spots:
            if self.table.is_home(spot[0]):
                self.net.link(("home", spot), spot, spot[1], self.room_for_all, 0)
        for turn, many in enumerate(comers):
            self.net.link(("by", turn), turn, "end", many, 0)

    def send(self, many):
        begin = self.net.numbers["begin"]
        end = self.net.numbers["end"]
        while many > 0:
            came = self.net.search([begin], {end: True})
            if came[end] is None:
                self.raise_prices(distances(self.net, begin, end))
            else:
                self.net.send_one(came, end)
                many = many - 1

    # With these prices, too, no arc that has room costs less than nothing; and the least way to the end costs nothing.
    def raise_prices(self, far):
        costs = self.net.costs
        heads = self.net.heads
        for node, arcs in enumerate(self.net.arcs_from):
            for arc in arcs:
                costs[arc] = costs[arc] + far[node] - far[heads[arc]]
        self.prices = [price + way for price, way in zip(self.prices, far)]

    def price_of(self, node):
        return self.prices[self.net.numbers[node]]

    def set_out_from(self, place, plan):
        waiting = []
        for turn in range(self.table.turns + 1):
            spot = (place, turn)
            waiting.extend(self.names.get(spot, [])[:self.net.taken(("come", spot))])
            many = self.net.taken(("set out", spot))
            for name in waiting[:many]:
                key = ("out", name, turn)
                plan[key] = plan.get(key, 0) + 1
            waiting = waiting[many:]

    def told_plan(self):
        plan = {}
        for row in self.table.places:
            self.set_out_from(row[0], plan)
        for key, many in self.net.all_taken().items():
            if key[0] in MOVES:
                plan[key] = many
        return plan

    def told_prices(self):
        prices = {}
        for spot in self.spots:
            prices[spot] = self.price_of(spot)
        for row in self.table.groups:
            prices[row[0]] = self.price_of(yard_of((row[1], row[2])))
        return prices
