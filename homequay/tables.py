"""A table: its turns, places, rides, ways and groups, and what is refused as none."""

from homequay.errors import BadTable, NoGroup, NoHomes, NoPlace, NoRide, NoTurn, NoWay
from homequay.words import is_group_name, is_name, is_within

MOST_TURNS = 50
MOST_ROOM = 1000
LONGEST_WAY = 50
MOST_PEOPLE = 300
MOST_ROWS = {"places": 14, "rides": 80, "ways": 40, "groups": 300}
ROW_SIZES = {"places": 2, "rides": 6, "ways": 5, "groups": 4}


def is_known(thing, names):
    # A list or a dict can't be looked up in a dict, so whether it is a text goes first.
    return isinstance(thing, str) and thing in names


def rows_of(part, rows):
    if not isinstance(rows, (list, tuple)):
        raise BadTable(part, None, "form")
    if len(rows) > MOST_ROWS[part]:
        raise BadTable(part, MOST_ROWS[part], "many")
    return tuple(rows)


def wrong_beginning(part, row, names_ahead):
    if not isinstance(row, tuple) or len(row) != ROW_SIZES[part]:
        return "form"
    fits = is_group_name(row[0]) if part == "groups" else is_name(row[0])
    if not fits:
        return "name"
    if row[0] in names_ahead:
        return "double"
    return None


def wrong_ends(table, start, goal):
    if not table.is_place(start) or not table.is_place(goal):
        return "place"
    if table.is_home(start):
        return "home"
    if goal == start:
        return "alike"
    return None


def wrong_place(row):
    if row[1] is None or is_within(row[1], 0, MOST_ROOM):
        return None
    return "number"


def wrong_ride(table, row):
    leave = row[2]
    why = wrong_ends(table, row[1], row[3])
    if why is not None:
        return why
    if not is_within(leave, 0, table.turns - 1) or not is_within(row[4], leave + 1, table.turns):
        return "turn"
    if not is_within(row[5], 0, MOST_ROOM):
        return "number"
    return None


def wrong_way(table, row):
    why = wrong_ends(table, row[1], row[2])
    if why is not None:
        return why
    if not is_within(row[3], 1, LONGEST_WAY) or not is_within(row[4], 0, MOST_ROOM):
        return "number"
    return None


def wrong_group(table, row, people_ahead):
    if not table.is_place(row[1]):
        return "place"
    if not is_within(row[2], 0, table.turns):
        return "turn"
    if not is_within(row[3], 0, MOST_PEOPLE):
        return "number"
    if people_ahead + row[3] > MOST_PEOPLE:
        return "people"
    return None


def refuse_row(part, at, why):
    if why is not None:
        raise BadTable(part, at, why)


class Table:
    def __init__(self, turns, places, rides, ways, groups):
        if not is_within(turns, 1, MOST_TURNS):
            raise BadTable("turns", None, "number")
        self.turns = turns
        # Each part is looked at against the ones ahead of it, so they are taken in this order.
        self.take_places(rows_of("places", places))
        self.take_rides(rows_of("rides", rides))
        self.take_ways(rows_of("ways", ways))
        self.take_groups(rows_of("groups", groups))

    def take_places(self, places):
        self.places = places
        self.room_by_place = {}
        for at, row in enumerate(places):
            refuse_row("places", at, wrong_beginning("places", row, self.room_by_place) or wrong_place(row))
            self.room_by_place[row[0]] = row[1]

    def take_rides(self, rides):
        self.rides = rides
        self.ride_by_name = {}
        for at, row in enumerate(rides):
            refuse_row("rides", at, wrong_beginning("rides", row, self.ride_by_name) or wrong_ride(self, row))
            self.ride_by_name[row[0]] = row

    def take_ways(self, ways):
        self.ways = ways
        self.way_by_name = {}
        for at, row in enumerate(ways):
            refuse_row("ways", at, wrong_beginning("ways", row, self.way_by_name) or wrong_way(self, row))
            self.way_by_name[row[0]] = row

    def take_groups(self, groups):
        self.groups = groups
        self.group_by_name = {}
        people = 0
        for at, row in enumerate(groups):
            why = wrong_beginning("groups", row, self.group_by_name) or wrong_group(self, row, people)
            refuse_row("groups", at, why)
            self.group_by_name[row[0]] = row
            people = people + row[3]

    def told(self):
        return (self.turns, self.places, self.rides, self.ways, self.groups)

    def is_place(self, thing):
        return is_known(thing, self.room_by_place)

    def is_home(self, thing):
        return self.is_place(thing) and self.room_by_place[thing] is None

    def is_ride(self, thing):
        return is_known(thing, self.ride_by_name)

    def is_way(self, thing):
        return is_known(thing, self.way_by_name)

    def is_group(self, thing):
        return is_known(thing, self.group_by_name)

    def room_of(self, name):
        if not self.is_place(name):
            raise NoPlace(name)
        return self.room_by_place[name]

    def homes(self):
        return [name for name, room in self.places if room is None]

    def ride_row(self, name):
        if not self.is_ride(name):
            raise NoRide(name)
        return self.ride_by_name[name]

    def way_row(self, name):
        if not self.is_way(name):
            raise NoWay(name)
        return self.way_by_name[name]

    def group_row(self, name):
        if not self.is_group(name):
            raise NoGroup(name)
        return self.group_by_name[name]

    def people(self):
        return sum([row[3] for row in self.groups])

    def with_rides(self, rides):
        return Table(self.turns, self.places, rides, self.ways, self.groups)

    def with_ride_as(self, changed):
        return self.with_rides([changed if row[0] == changed[0] else row for row in self.rides])

    def with_ride(self, row):
        return self.with_rides(self.rides + (row,))

    def with_groups(self, rows):
        return Table(self.turns, self.places, self.rides, self.ways, rows)

    def without_ride(self, name):
        struck = self.ride_row(name)
        return self.with_rides([row for row in self.rides if row != struck])

    def with_seats(self, name, seats):
        row = self.ride_row(name)
        return self.with_ride_as((row[0], row[1], row[2], row[3], row[4], seats))

    def with_later(self, name, by):
        row = self.ride_row(name)
        if not is_within(by, 1, self.turns - row[4]):
            raise NoTurn(by)
        return self.with_ride_as((row[0], row[1], row[2] + by, row[3], row[4] + by, row[5]))

    def with_homes(self, bits):
        homes = self.homes()
        if not is_within(bits, 0, (1 << len(homes)) - 1):
            raise NoHomes(bits)
        closed = [name for number, name in enumerate(homes) if bits & (1 << number) == 0]
        places = [(name, 0) if name in closed else (name, room) for name, room in self.places]
        return Table(self.turns, places, self.rides, self.ways, self.groups)
