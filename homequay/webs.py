"""The web of a table: its spots, and the steps that lead out of each node and to it."""

from homequay.errors import NoSpot
from homequay.steps import steps_of
from homequay.words import is_within


def is_spot_of(table, thing):
    if not isinstance(thing, tuple) or len(thing) != 2:
        return False
    return table.is_place(thing[0]) and is_within(thing[1], 0, table.turns)


def is_home_spot(table, thing):
    return is_spot_of(table, thing) and table.is_home(thing[0])


def spots_of(table):
    spots = []
    for turn in range(table.turns + 1):
        spots.extend([(row[0], turn) for row in table.places])
    return spots


def home_spots_by(table, turn):
    return [spot for spot in spots_of(table) if spot[1] <= turn and table.is_home(spot[0])]


class Web:
    def __init__(self, table):
        self.table = table
        self.steps = steps_of(table)
        self.steps_by_tail = {}
        self.steps_by_head = {}
        for step in self.steps:
            self.steps_by_tail.setdefault(step.tail(), []).append(step)
            self.steps_by_head.setdefault(step.head(), []).append(step)

    def all_steps(self):
        return list(self.steps)

    def is_spot(self, thing):
        return is_spot_of(self.table, thing)

    def refuse_no_node(self, thing):
        if not self.is_spot(thing) and not self.table.is_group(thing):
            raise NoSpot(thing)

    def leading_out(self, node):
        self.refuse_no_node(node)
        return list(self.steps_by_tail.get(node, []))

    def leading_in(self, node):
        self.refuse_no_node(node)
        return list(self.steps_by_head.get(node, []))
