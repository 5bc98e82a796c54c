"""A sending: a plan that grows by one person at a time, and the line at which it can't."""

from homequay.errors import NoGroup, NoSpot
from homequay.nets import Net
from homequay.steps import steps_of
from homequay.walking import out_by_group, refuse_no_plan
from homequay.webs import is_home_spot, spots_of


def net_of(table):
    net = Net([row[0] for row in table.groups] + spots_of(table))
    # No setting out is taken by more than all people, so with one more it always has room.
    room_for_all = table.people() + 1
    for step in steps_of(table):
        room = room_for_all if step.room() is None else step.room()
        # Every way to come home is as good as another one here.
        net.link(step.key(), step.tail(), step.head(), room, 0)
    return net


class Sending:
    def __init__(self, table, plan=None):
        begun = {} if plan is None else plan
        refuse_no_plan(table, begun)
        self.table = table
        self.net = net_of(table)
        for key, many in begun.items():
            self.net.send(self.net.arc_of[key], many)
        out = out_by_group(begun)
        self.left = {}
        for row in table.groups:
            self.left[row[0]] = row[3] - out.get(row[0], 0)
        # How the nodes were come to in the last asking, where it was False.
        self.came_last = None

    def refuse_no_group(self, thing):
        if not self.table.is_group(thing):
            raise NoGroup(thing)

    def refuse_no_goal(self, thing):
        if not is_home_spot(self.table, thing):
            raise NoSpot(thing)

    def more(self, groups, goals):
        for group in groups:
            self.refuse_no_group(group)
        for goal in goals:
            self.refuse_no_goal(goal)
        starts = [self.net.numbers[group] for group in groups if self.left[group] > 0]
        ends = {}
        for goal in goals:
            ends[self.net.numbers[goal]] = True
        came = self.net.search(starts, ends)
        reached = [end for end in ends if came[end] is not None]
        if len(reached) == 0:
            self.came_last = came
            return False
        group = self.net.nodes[self.net.send_one(came, reached[0])]
        self.left[group] = self.left[group] - 1
        self.came_last = None
        return True

    def sent(self):
        return self.net.all_taken()

    def left_of(self, group):
        self.refuse_no_group(group)
        return self.left[group]

    def near(self):
        if self.came_last is None:
            return None
        nodes = [node for node, arc in zip(self.net.nodes, self.came_last) if arc is not None]
        groups = [node for node in nodes if self.table.is_group(node)]
        return (groups, nodes[len(groups):])
