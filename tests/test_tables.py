"""What a table tells, and the other tables that it tells [3], [12], [14], [15]."""

import unittest

from homequay.errors import BadTable, NoGroup, NoHomes, NoPlace, NoRide, NoTurn, NoWay
from homequay.tables import Table
from tests.things import GROUPS, PLACES, RIDES, TURNS, WAYS, any_things, refusal, small_table

TOLD = (TURNS, PLACES, RIDES, WAYS, GROUPS)


class ToldTest(unittest.TestCase):
    def test_parts_are_told_as_handed_in(self):
        for kind in (list, tuple):
            table = Table(TURNS, kind(PLACES), kind(RIDES), kind(WAYS), kind(GROUPS))
            self.assertEqual(table.told(), TOLD)
            self.assertEqual((table.turns, table.places, table.rides, table.ways, table.groups), TOLD)
            for part in table.told()[1:]:
                self.assertIs(part.__class__, tuple)

    def test_lists_changed_afterwards_change_nothing(self):
        parts = [list(PLACES), list(RIDES), list(WAYS), list(GROUPS)]
        table = Table(TURNS, *parts)
        for part in parts:
            part.reverse()
            part.append(None)
        self.assertEqual(table.told(), TOLD)
        self.assertEqual(table.homes(), ["home", "inn"])
        self.assertEqual(table.people(), 5)

    def test_what_is_handed_in_stays(self):
        parts = [list(PLACES), list(RIDES), list(WAYS), list(GROUPS)]
        Table(TURNS, *parts)
        self.assertEqual(parts, [list(PLACES), list(RIDES), list(WAYS), list(GROUPS)])

    def test_places_homes_and_groups(self):
        table = small_table()
        for thing in any_things() + ["quay", "hill", "home", "inn", "bus", "path", "ann.1", "bob", ["quay"], ("home",)]:
            for told, names in ((table.is_place(thing), ["quay", "hill", "home", "inn"]),
                                (table.is_home(thing), ["home", "inn"]),
                                (table.is_group(thing), ["ann.1", "quay", "bob"])):
                self.assertIs(told, thing in names, thing)

    def test_rooms(self):
        table = small_table()
        self.assertEqual([table.room_of(row[0]) for row in PLACES], [2, 0, None, None])
        for thing in any_things() + ["bus", "ann.1", ["quay"], ("quay",)]:
            self.assertEqual(refusal(self, NoPlace, table.room_of, thing).name, thing)

    def test_homes_in_the_order_of_the_places(self):
        self.assertEqual(small_table().homes(), ["home", "inn"])
        self.assertEqual(Table(1, [("z", None), ("b", 0), ("a", None)], [], [], []).homes(), ["z", "a"])
        self.assertEqual(Table(1, [("b", 0)], [], [], []).homes(), [])

    def test_homes_that_are_changed_are_told_again(self):
        table = small_table()
        table.homes().append("quay")
        table.homes().clear()
        self.assertEqual(table.homes(), ["home", "inn"])

    def test_rows_by_their_names(self):
        table = small_table()
        for rows, ask, error in ((RIDES, table.ride_row, NoRide), (WAYS, table.way_row, NoWay),
                                 (GROUPS, table.group_row, NoGroup)):
            names = [row[0] for row in rows]
            self.assertEqual([ask(name) for name in names], list(rows))
            for thing in any_things() + ["quay", "hill", "bus", "path", "bob", ["bus"], ("path",), RIDES[0]]:
                if thing not in names:
                    self.assertEqual(refusal(self, error, ask, thing).name, thing)

    def test_people(self):
        self.assertEqual(small_table().people(), 5)
        self.assertEqual(Table(1, [], [], [], []).people(), 0)

    def test_refusals_change_nothing(self):
        table = small_table()
        for thing in any_things():
            refusal(self, NoPlace, table.room_of, thing)
            refusal(self, NoHomes, table.with_homes, (thing,))
            refusal(self, BadTable, table.with_ride, thing)
        self.assertEqual(table.told(), TOLD)


class OtherTablesTest(unittest.TestCase):
    def setUp(self):
        self.table = small_table()

    def tearDown(self):
        self.assertEqual(self.table.told(), TOLD)

    def tells(self, table, turns=TURNS, places=PLACES, rides=RIDES, ways=WAYS, groups=GROUPS):
        self.assertIsInstance(table, Table)
        self.assertEqual(table.told(), (turns, places, rides, ways, groups))

    def bad(self, deed, *things):
        error = refusal(self, BadTable, deed, *things)
        return (error.part, error.at, error.why)

    def test_with_a_ride(self):
        row = ("new", "hill", 0, "inn", 4, 1000)
        other = self.table.with_ride(row)
        self.tells(other, rides=RIDES + (row,))
        self.assertEqual(other.ride_row("new"), row)
        refusal(self, NoRide, self.table.ride_row, "new")

    def test_with_a_ride_that_is_none(self):
        self.assertEqual(self.bad(self.table.with_ride, RIDES[0]), ("rides", 3, "double"))
        self.assertEqual(self.bad(self.table.with_ride, ("new", "inn", 0, "hill", 1, 1)), ("rides", 3, "home"))
        self.assertEqual(self.bad(self.table.with_ride, ("new", "hill", 0, "inn", 5, 1)), ("rides", 3, "turn"))
        self.assertEqual(self.bad(self.table.with_ride, ("new", "hill", 0, "inn", 4, True)), ("rides", 3, "number"))
        for thing in any_things() + [list(RIDES[0])]:
            self.assertEqual(self.bad(self.table.with_ride, thing), ("rides", 3, "form"))

    def test_with_a_ride_at_the_bound(self):
        table = Table(TURNS, PLACES, [("r" + str(k), "hill", 0, "inn", 1, 1) for k in range(79)], [], [])
        full = table.with_ride(("r79", "hill", 0, "inn", 1, 1))
        self.assertEqual(len(full.rides), 80)
        self.assertEqual(self.bad(full.with_ride, ("r80", "hill", 0, "inn", 1, 1)), ("rides", 80, "many"))

    def test_with_groups(self):
        rows = [("new.1", "inn", 4, 300), ("b", "quay", 0, 0)]
        other = self.table.with_groups(rows)
        rows.clear()
        self.tells(other, groups=(("new.1", "inn", 4, 300), ("b", "quay", 0, 0)))
        self.tells(self.table.with_groups(()), groups=())
        self.assertIs(other.is_group("bob"), False)

    def test_with_groups_that_are_none(self):
        self.assertEqual(self.bad(self.table.with_groups, None), ("groups", None, "form"))
        self.assertEqual(self.bad(self.table.with_groups, [None] * 301), ("groups", 300, "many"))
        self.assertEqual(self.bad(self.table.with_groups, [["g", "quay", 0, 1]]), ("groups", 0, "form"))
        self.assertEqual(self.bad(self.table.with_groups, [("g", "quay", 0, 300), ("f", "quay", 0, 1)]),
                         ("groups", 1, "people"))

    def test_without_a_ride(self):
        for at, row in enumerate(RIDES):
            self.tells(self.table.without_ride(row[0]), rides=RIDES[:at] + RIDES[at + 1:])
        refusal(self, NoRide, self.table.without_ride("bus").ride_row, "bus")
        for thing in any_things() + ["hill", "path", RIDES[0], ["bus"]]:
            self.assertEqual(refusal(self, NoRide, self.table.without_ride, thing).name, thing)

    def test_with_seats(self):
        for seats in (0, 1, 3, 1000):
            rides = (RIDES[0], ("quay", "hill", 2, "home", 3, seats), RIDES[2])
            other = self.table.with_seats("quay", seats)
            self.tells(other, rides=rides)
            self.assertEqual(other.ride_row("quay"), rides[1])

    def test_with_seats_refused(self):
        for seats in (-1, 1001, True, False, None, "1", [], {}):
            for at, row in enumerate(RIDES):
                self.assertEqual(self.bad(self.table.with_seats, row[0], seats), ("rides", at, "number"))
        for thing in any_things() + ["hill", ["bus"]]:
            for seats in (1, -1, None):
                self.assertEqual(refusal(self, NoRide, self.table.with_seats, thing, seats).name, thing)

    def test_with_later(self):
        for by in (1, 2):
            rides = (("bus", "quay", by, "hill", 2 + by, 3), RIDES[1], RIDES[2])
            self.tells(self.table.with_later("bus", by), rides=rides)
        self.tells(self.table.with_later("quay", 1), rides=(RIDES[0], ("quay", "hill", 3, "home", 4, 2), RIDES[2]))

    def test_with_later_refused(self):
        for name, most in (("bus", 2), ("quay", 1), ("late", 0)):
            for thing in any_things() + [most + 1, 0]:
                if thing.__class__ is not int or not 1 <= thing <= most:
                    found = refusal(self, NoTurn, self.table.with_later, name, thing).found
                    self.assertEqual(found, thing)
                    self.assertIs(found.__class__, thing.__class__)
        for thing in any_things() + ["hill", ["bus"]]:
            for by in (1, 9, None):
                self.assertEqual(refusal(self, NoRide, self.table.with_later, thing, by).name, thing)

    def test_with_some_homes(self):
        rooms = {0: (0, 0), 1: (None, 0), 2: (0, None), 3: (None, None)}
        for bits, room in rooms.items():
            places = (PLACES[0], PLACES[1], ("home", room[0]), ("inn", room[1]))
            other = self.table.with_homes(bits)
            self.tells(other, places=places)
            self.assertEqual(other.homes(), [row[0] for row in places if row[1] is None])
        self.assertEqual(self.table.with_homes(2).room_of("home"), 0)

    def test_with_some_homes_refused(self):
        for thing in any_things() + [4, 5]:
            if thing.__class__ is not int or not 0 <= thing <= 3:
                found = refusal(self, NoHomes, self.table.with_homes, thing).found
                self.assertEqual(found, thing)
                self.assertIs(found.__class__, thing.__class__)

    def test_without_homes_and_with_homes_alone(self):
        none = Table(1, [("a", 3)], [], [], [])
        self.assertEqual(none.with_homes(0).told(), none.told())
        self.assertEqual(refusal(self, NoHomes, none.with_homes, 1).found, 1)
        many = Table(1, [("h" + str(k), None) for k in range(14)], [], [], [])
        self.assertEqual(many.with_homes(2 ** 14 - 1).told(), many.told())
        self.assertEqual(many.with_homes(2 ** 13 + 1).homes(), ["h0", "h13"])
        refusal(self, NoHomes, many.with_homes, 2 ** 14)

    def test_one_table_after_another(self):
        other = self.table.with_later("bus", 1).with_seats("bus", 9).without_ride("late").with_homes(1)
        self.tells(other, places=PLACES[:3] + (("inn", 0),), rides=(("bus", "quay", 1, "hill", 3, 9), RIDES[1]))


if __name__ == "__main__":
    unittest.main()
