"""The rest of a table, when a plan has been walked up to a turn [2], [3], [4], [5], [101], [102]."""

import copy
import unittest

from homequay.cheapest import cheapest
from homequay.errors import NoPlan, NoTurn
from homequay.journeys import journeys_of
from homequay.rests import rest_of
from homequay.tables import Table
from tests.things import (any_things, bare_tables, chance_plans, chance_tables, full_table, refusal, rest_by_hand,
                          small_table)


def long_table():
    """Rides and ways to places and to homes, rooms to wait in, groups at homes and of later turns."""
    return Table(6, [("a", 3), ("h", None), ("b", 1), ("i", None)],
                 [("r", "a", 0, "b", 2, 2), ("s", "b", 3, "h", 5, 1), ("t", "a", 1, "i", 4, 1), ("u", "a", 5, "h", 6, 1)],
                 [("w", "b", "h", 2, 1), ("v", "a", "b", 1, 3)],
                 [("g", "a", 0, 5), ("f", "h", 2, 2), ("e", "b", 4, 1), ("d", "i", 0, 1), ("c", "a", 0, 0)])


def plan():
    """Two ride to b, where one walks on and one waits for s; one rides from a to i; two of g do not set out."""
    return {
        ("out", "g", 0): 3, ("ride", "r"): 2, ("wait", "a", 0): 1, ("ride", "t"): 1, ("walk", "w", 2): 1, ("wait", "b", 2): 1,
        ("ride", "s"): 1, ("out", "f", 2): 1, ("out", "f", 5): 1, ("out", "d", 1): 1,
    }


# By turn: how many are home, and (place, turn, many) of those who stand somewhere, reckoned by hand.
BY_TURN = [
    (0, [("a", 0, 5), ("i", 0, 1), ("h", 2, 2), ("b", 4, 1)]),
    (0, [("a", 1, 3), ("i", 1, 1), ("h", 2, 2), ("b", 2, 2), ("b", 4, 1)]),
    (1, [("a", 2, 2), ("h", 2, 2), ("b", 2, 2), ("b", 4, 1), ("i", 4, 1)]),
    (2, [("a", 3, 2), ("h", 3, 1), ("b", 3, 1), ("h", 4, 1), ("b", 4, 1), ("i", 4, 1)]),
    (4, [("a", 4, 2), ("h", 4, 1), ("b", 4, 1), ("h", 5, 1)]),
    (5, [("a", 5, 2), ("h", 5, 1), ("b", 5, 1)]),
    (6, [("a", 6, 2), ("b", 6, 1)]),
]


class RestTest(unittest.TestCase):
    def look_at(self, table, plan, now):
        told = rest_of(table, plan, now)
        self.assertEqual([part.__class__ for part in (told,) + told], [tuple, int, Table])
        home, rest = told
        by_hand = rest_by_hand(table, journeys_of(table, plan), now)
        self.assertEqual((home, list(rest.groups)), by_hand)
        rides = tuple(row for row in table.rides if row[2] >= now)
        self.assertEqual(rest.told()[:4], (table.turns, table.places, rides, table.ways))
        self.assertEqual(home + rest.people(), table.people())
        self.assertGreater(min([row[3] for row in rest.groups], default=1), 0)
        return home, [row[1:] for row in rest.groups]

    def test_every_turn_by_hand(self):
        table = long_table()
        for now, (home, standing) in enumerate(BY_TURN):
            told = self.look_at(table, plan(), now)
            self.assertEqual(told, (home, standing))

    def test_names_and_order_of_the_groups(self):
        names = [row[0] for row in rest_of(long_table(), plan(), 3)[1].groups]
        self.assertEqual(names, ["a.3", "h.3", "b.3", "h.4", "b.4", "i.4"])
        table = Table(50, [("longname", 0), ("h", None)], [], [], [("g", "longname", 12, 1)])
        self.assertEqual(rest_of(table, {}, 50)[1].groups, (("longname.50", "longname", 50, 1),))
        self.assertEqual(rest_of(table, {}, 3)[1].groups, (("longname.12", "longname", 12, 1),))

    def test_rides_that_leave_at_now_or_later(self):
        rides = [[row[0] for row in rest_of(long_table(), {}, now)[1].rides] for now in range(7)]
        self.assertEqual(rides, [["r", "s", "t", "u"], ["s", "t", "u"], ["s", "u"], ["s", "u"], ["u"], ["u"], []])

    def test_groups_are_joined_by_place_and_turn(self):
        table = Table(3, [("a", 0), ("h", None)], [], [], [("x", "a", 2, 1), ("y", "a", 0, 2), ("z", "a", 1, 4), ("q", "h", 0, 1)])
        self.assertEqual(self.look_at(table, {}, 1), (0, [("a", 1, 6), ("h", 1, 1), ("a", 2, 1)]))
        self.assertEqual(self.look_at(table, {}, 2), (0, [("a", 2, 7), ("h", 2, 1)]))

    def test_who_stands_at_a_home(self):
        table = Table(3, [("h", None)], [], [], [("g", "h", 1, 2)])
        told = [self.look_at(table, {("out", "g", 1): 1, ("out", "g", 3): 1}, now) for now in range(4)]
        self.assertEqual(told, [(0, [("h", 1, 2)]), (0, [("h", 1, 2)]), (1, [("h", 2, 1)]), (1, [("h", 3, 1)])])

    def test_plans_made_by_chance(self):
        for table, walked in chance_plans(120):
            for now in range(table.turns + 1):
                self.look_at(table, walked, now)

    def test_plans_that_are_best(self):
        for table in chance_tables(40) + [small_table()] + bare_tables():
            walked = cheapest(table)[0]
            for now in range(table.turns + 1):
                self.look_at(table, walked, now)

    def test_a_table_at_its_bounds(self):
        table = full_table()
        walked = cheapest(table)[0]
        for now in (0, 1, 20, 49, 50):
            self.look_at(table, walked, now)
        # As many places and turns as people, so as many groups.
        spots = [(f"g{at}", f"p{at % 12}", at // 12, 1) for at in range(300)]
        self.assertEqual(len(rest_of(table.with_groups(spots), {}, 0)[1].groups), 300)

    def test_no_plan_goes_first(self):
        table = long_table()
        for thing in any_things() + [[plan()], {**plan(), ("ride", "r"): 3}, {("out", "g", 0): True}, {("ride", "r"): 1}]:
            if thing != {}:
                for now in (0, 6, 7, -1, True, None, "x", thing):
                    found = refusal(self, NoPlan, rest_of, table, thing, now).found
                    self.assertEqual(found, thing)
                    self.assertIs(found.__class__, thing.__class__)

    def test_no_turn_goes_next(self):
        for thing in any_things() + [7, -1, True, False, "0", [0], (0,), 51]:
            if thing not in (0, 1) or isinstance(thing, bool):
                for walked in ({}, plan()):
                    found = refusal(self, NoTurn, rest_of, long_table(), walked, thing).found
                    self.assertEqual(found, thing)
                    self.assertIs(found.__class__, thing.__class__)

    def test_what_is_handed_in_stays(self):
        table = long_table()
        handed = plan()
        kept = copy.deepcopy(handed)
        told = rest_of(table, handed, 3)
        self.assertEqual((table.told(), handed), (long_table().told(), kept))
        handed.clear()
        self.assertEqual(told[1].told(), rest_of(table, kept, 3)[1].told())


if __name__ == "__main__":
    unittest.main()
