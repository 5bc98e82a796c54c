"""The steps of a table: settings out, rides, walks and waits."""

from homequay.errors import NoStep
from homequay.words import is_within


class Step:
    def __init__(self, key, tail, head, room, price):
        self.its_key = key
        self.its_tail = tail
        self.its_head = head
        self.its_room = room
        self.its_price = price

    def key(self):
        return self.its_key

    def tail(self):
        return self.its_tail

    def head(self):
        return self.its_head

    def room(self):
        return self.its_room

    def price(self):
        return self.its_price


class SetOut(Step):
    def __init__(self, row, turn):
        Step.__init__(self, ("out", row[0], turn), row[0], (row[1], turn), None, 0)


class Ride(Step):
    def __init__(self, row):
        leave = row[2]
        come = row[4]
        Step.__init__(self, ("ride", row[0]), (row[1], leave), (row[3], come), row[5], come - leave)


class Walk(Step):
    def __init__(self, row, turn):
        long = row[3]
        Step.__init__(self, ("walk", row[0], turn), (row[1], turn), (row[2], turn + long), row[4], long)


class Wait(Step):
    def __init__(self, row, turn):
        Step.__init__(self, ("wait", row[0], turn), (row[0], turn), (row[0], turn + 1), row[1], 1)


def set_outs_of(table):
    steps = []
    for row in table.groups:
        steps.extend([SetOut(row, turn) for turn in range(row[2], table.turns + 1)])
    return steps


def walks_of(table):
    steps = []
    for row in table.ways:
        steps.extend([Walk(row, turn) for turn in range(table.turns - row[3] + 1)])
    return steps


def waits_of(table):
    steps = []
    for row in table.places:
        if row[1] is not None:
            steps.extend([Wait(row, turn) for turn in range(table.turns)])
    return steps


def moves_of(table):
    return [Ride(row) for row in table.rides] + walks_of(table) + waits_of(table)


def steps_of(table):
    return set_outs_of(table) + moves_of(table)


def set_out_of(table, name, turn):
    if not table.is_group(name):
        return None
    row = table.group_row(name)
    return SetOut(row, turn) if is_within(turn, row[2], table.turns) else None


def walk_of(table, name, turn):
    if not table.is_way(name):
        return None
    row = table.way_row(name)
    return Walk(row, turn) if is_within(turn, 0, table.turns - row[3]) else None


def wait_of(table, name, turn):
    if not table.is_place(name) or table.is_home(name):
        return None
    row = (name, table.room_of(name))
    return Wait(row, turn) if is_within(turn, 0, table.turns - 1) else None


def step_or_none(table, key):
    if not isinstance(key, tuple):
        return None
    if len(key) == 2 and key[0] == "ride" and table.is_ride(key[1]):
        return Ride(table.ride_row(key[1]))
    if len(key) != 3:
        return None
    if key[0] == "out":
        return set_out_of(table, key[1], key[2])
    if key[0] == "walk":
        return walk_of(table, key[1], key[2])
    if key[0] == "wait":
        return wait_of(table, key[1], key[2])
    return None


def step_of(table, key):
    step = step_or_none(table, key)
    if step is None:
        raise NoStep(key)
    return step
