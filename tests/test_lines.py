"""Lines, and what they let [2], [3], [4], [33], [34], [35]."""

import copy
import random
import unittest

from homequay.errors import NoTurn
from homequay.lines import is_line, lets, rooms_across
from homequay.tables import Table
from tests.things import (any_things, bare_tables, chance_tables, full_table, lets_by_hand, refusal, rooms_by_hand,
                          small_table)

QUAY = [("quay", turn) for turn in range(5)]
# (line, rooms across), summed by hand of the small table.
ROOMS = [
    (([], []), 0),
    ((["ann.1"], QUAY), 3 + 0 + 1 + 1),                              # bus, late, path at 0 and at 1
    (([], QUAY), 5),
    ((["ann.1"], QUAY + [("hill", 2)]), 2 + 0 + 0 + 1 + 1),           # the ride quay, the wait at the hill, late, path
    ((["ann.1"], QUAY + [("hill", 2), ("home", 3)]), 0 + 0 + 1),      # the wait at the hill, late, path at 1
    ((["ann.1"], QUAY + [("home", 3), ("home", 4)]), 3 + 0),          # bus, late
    (([], [("quay", 0)]), 3 + 1 + 2),                                # bus, path at 0, the wait
    (([], [("quay", 4)]), 0),
    (([], [("hill", 2)]), 2 + 0),
    ((["quay"], [("home", 4)]), 0),
    ((["bob"], [("hill", 4), ("hill", 3)]), 0),
    ((["bob", "quay", "ann.1"], [("home", 4), ("hill", 4), ("hill", 3)] + QUAY), 3 + 0 + 1 + 0),
]


def no_lines():
    """Things that are no lines of the small table."""
    return any_things() + [
        ["ann.1"], [["ann.1"], QUAY], (["ann.1"],), (["ann.1"], QUAY, []), (("ann.1",), QUAY), (["ann.1"], tuple(QUAY)),
        ([], ()), ((), []), ({}, []), ([], {}), ([], None), (None, []), ("", []), ("quay", QUAY), ([], "quay"),
        (["ann.1", "ann.1"], QUAY), (["ann.1"], QUAY + QUAY[:1]), ([], [("quay", 4), ("quay", 4)]),
        (["nobody"], QUAY), (["hill"], QUAY), (["bus"], QUAY), ([("quay", 0)], QUAY), ([None], []), ([[]], []), ([{}], []),
        ([], QUAY + [("quay", 5)]), ([], QUAY + [("quay", -1)]), ([], [("bus", 0)]), ([], [("ann.1", 0)]), ([], ["quay"]),
        ([], ["ann.1"]), ([], [("quay", True)]), ([], [("quay", False)]), ([], [["quay", 0]]), ([], [("quay", 0, 0)]),
        ([], [("quay",)]), ([], [("quay", "0")]), ([], [("quay", None)]), ([], [([], 0)]), ([], [("quay", [])]),
        ([], [None]), ([], [True]), (QUAY, ["ann.1"]), ([True], []), ([], [{}]),
    ]


# Lines of the small table that a setting out crosses.
CROSSED = [
    (["ann.1"], []), (["ann.1"], QUAY[1:]), (["ann.1"], QUAY[:4]), (["ann.1"], QUAY[:2] + QUAY[3:]), (["quay"], QUAY),
    (["quay"], [("home", 3)]), (["bob"], [("hill", 3)]), (["bob"], [("hill", 4)]), (["ann.1", "quay"], QUAY),
]


class RoomsTest(unittest.TestCase):
    def test_rooms_summed_by_hand(self):
        for line, rooms in ROOMS:
            self.assertEqual(rooms_by_hand(small_table(), line), rooms, line)
            told = rooms_across(small_table(), line)
            self.assertEqual(told, rooms, line)
            self.assertIs(told.__class__, int)

    def test_any_order(self):
        for line, rooms in ROOMS:
            turned = (line[0][::-1], line[1][::-1])
            self.assertEqual(rooms_across(small_table(), turned), rooms)

    def test_where_a_setting_out_crosses(self):
        for line in CROSSED:
            self.assertIsNone(rooms_across(small_table(), line), line)
            for turn in range(5):
                self.assertIsNone(lets(small_table(), turn, line), line)

    def test_a_group_without_people_sets_out_too(self):
        table = Table(2, [("a", 0), ("h", None)], [], [], [("g", "a", 1, 0)])
        self.assertIsNone(rooms_across(table, (["g"], [("a", 1)])))
        self.assertEqual(rooms_across(table, (["g"], [("a", 1), ("a", 2)])), 0)

    def test_what_is_no_line(self):
        for thing in no_lines():
            self.assertIsNone(rooms_across(small_table(), thing), thing)
            for turn in (0, 2, 4):
                self.assertIsNone(lets(small_table(), turn, thing), thing)
                for number in (0, 5, None):
                    self.assertIs(is_line(small_table(), turn, thing, number), False)

    def test_by_chance(self):
        chance = random.Random(33)
        for table in chance_tables(60):
            spots = [(row[0], turn) for row in table.places for turn in range(table.turns + 1)]
            for number in range(8):
                groups = [row[0] for row in table.groups if chance.randint(0, 2) == 0]
                near = [spot for spot in spots if chance.randint(0, number % 4 + 1) > 0]
                line = (groups, near)
                self.assertEqual(rooms_across(table, line), rooms_by_hand(table, line))
                for turn in range(table.turns + 1):
                    self.assertEqual(lets(table, turn, line), lets_by_hand(table, turn, line))


class LetsTest(unittest.TestCase):
    def test_what_lines_let_for_each_turn(self):
        line = (["ann.1"], QUAY)
        self.assertEqual([lets(small_table(), turn, line) for turn in range(5)], [5 + 1] * 5)
        self.assertEqual([lets(small_table(), turn, ([], [])) for turn in range(5)], [5] * 5)
        self.assertEqual([lets(small_table(), turn, ([], QUAY)) for turn in range(5)], [5 + 5] * 5)
        with_hill = (["ann.1"], QUAY + [("hill", 2)])
        self.assertEqual([lets(small_table(), turn, with_hill) for turn in range(5)], [4 + 1] * 5)

    def test_home_spots_on_the_near_side(self):
        # One of the turn, of an earlier one and of a later one.
        later = (["ann.1"], QUAY + [("home", 3), ("home", 4)])
        self.assertEqual([lets(small_table(), turn, later) for turn in range(5)], [4, 4, 4, None, None])
        last = (["quay"], [("home", 4)])
        self.assertEqual([lets(small_table(), turn, last) for turn in range(5)], [4, 4, 4, 4, None])
        first = ([], [("inn", 0)])
        self.assertEqual([lets(small_table(), turn, first) for turn in range(5)], [None] * 5)

    def test_groups_beyond(self):
        table = Table(2, [("a", 3), ("h", None)], [], [], [("g", "a", 0, 7), ("f", "a", 1, 20), ("e", "a", 2, 100)])
        spots = [("a", 0), ("a", 1), ("a", 2)]
        for groups, beyond in (([], 127), (["g"], 120), (["f"], 107), (["e", "f"], 7), (["f", "e", "g"], 0)):
            self.assertEqual(lets(table, 2, (groups, spots)), beyond)

    def test_turns_that_are_none(self):
        for thing in any_things() + [5, -1, True, False, "0", [0], (0,), 51]:
            if thing not in (0, 1) or isinstance(thing, bool):
                for line in (([], []), (["ann.1"], QUAY), None, CROSSED[0]):
                    found = refusal(self, NoTurn, lets, small_table(), thing, line).found
                    self.assertEqual(found, thing)
                    self.assertIs(found.__class__, thing.__class__)

    def test_bare_tables(self):
        for table in bare_tables():
            for turn in range(table.turns + 1):
                self.assertEqual(lets(table, turn, ([], [])), table.people())

    def test_a_table_at_its_bounds(self):
        table = full_table()
        spots = [(name, turn) for turn in range(51) for name, room in table.places if room is not None]
        line = ([row[0] for row in table.groups if row[1] not in ("north", "south")], spots)
        self.assertEqual(rooms_across(table, line), rooms_by_hand(table, line))
        self.assertEqual(lets(table, 50, line), lets_by_hand(table, 50, line))
        self.assertEqual(lets(table, 50, ([], [])), 300)


class IsLineTest(unittest.TestCase):
    def test_the_right_number_and_those_beside_it(self):
        line = (["ann.1"], QUAY)
        for turn in range(5):
            for number in range(-1, 12):
                self.assertIs(is_line(small_table(), turn, line, number), number == 6)

    def test_truths_in_the_place_of_numbers(self):
        table = Table(2, [("a", 0), ("h", None)], [("r", "a", 0, "h", 1, 1)], [], [("g", "a", 0, 2)])
        one = (["g"], [("a", 0), ("a", 1), ("a", 2)])
        none = (["g"], [("a", 0), ("a", 1), ("a", 2), ("h", 1)])
        self.assertIs(is_line(table, 1, one, 1), True)
        self.assertIs(is_line(table, 1, one, True), False)
        self.assertIs(is_line(table, True, one, 1), False)
        self.assertIs(is_line(table, 0, none, 0), True)
        self.assertIs(is_line(table, 0, none, False), False)
        self.assertIs(is_line(table, False, none, 0), False)

    def test_any_things(self):
        for thing in any_things():
            self.assertIs(is_line(small_table(), thing, ([], []), 5), thing in (0, 1) and not isinstance(thing, bool))
            self.assertIs(is_line(small_table(), 0, ([], []), thing), False)
            for other in any_things():
                self.assertIs(is_line(small_table(), thing, other, 5), False)
                self.assertIs(is_line(small_table(), 0, thing, other), False)

    def test_no_line_for_the_turn_and_no_number(self):
        for line in CROSSED + [([], [("home", 0)])]:
            for number in (None, 0, 5, "", False):
                self.assertIs(is_line(small_table(), 4, line, number), False)


class CopiesTest(unittest.TestCase):
    def test_what_is_handed_in_stays(self):
        for line, rooms in ROOMS:
            kept = copy.deepcopy(line)
            rooms_across(small_table(), line)
            lets(small_table(), 1, line)
            is_line(small_table(), 1, line, 5)
            self.assertEqual(line, kept)
        things = no_lines()
        for thing in things:
            is_line(small_table(), 1, thing, thing)
        self.assertEqual(things, no_lines())


if __name__ == "__main__":
    unittest.main()
