"""A seat more and a seat less [2], [3], [4], [5], [6], [91], [92], [93], [94], [95]."""

import copy
import unittest

from homequay.best import best_by
from homequay.errors import NoRide, NoSeat, NoTurn
from homequay.seats import less_holds, more_holds, seat_less, seat_more, worth
from homequay.tables import Table
from homequay.walking import faults, home_counts
from tests.things import (any_things, bare_tables, chance_table, chance_tables, full_table, in_order,
                          least_turns_by_hand, lets_by_hand, refusal, renamed, small_table, sums)

# Of each asking: what is told, what looks at it, and by how many the seats would be other.
BOTH = [(seat_more, more_holds, 1), (seat_less, less_holds, -1)]


def row_of_two_table():
    """One seat of each of two rides in a row; a second person waits for both."""
    return Table(4, [("a", 0), ("b", 0), ("h", None)], [("r", "a", 0, "b", 1, 1), ("s", "b", 1, "h", 2, 1)], [],
                 [("g", "a", 0, 2)])


def wide_and_narrow_table():
    """r is full and worth a seat; s has seats left; t nobody takes; u has no seats, v a thousand."""
    return Table(4, [("a", 0), ("b", 0), ("h", None)],
                 [("r", "a", 0, "h", 2, 1), ("s", "b", 1, "h", 2, 5), ("t", "b", 3, "a", 4, 2), ("u", "a", 2, "h", 4, 0),
                  ("v", "b", 0, "h", 3, 1000)], [], [("g", "a", 0, 3), ("f", "b", 1, 2)])


def two_rides_table():
    """Either ride carries all: a seat less of one costs nobody, as the other has it."""
    return Table(2, [("a", 0), ("h", None)], [("r", "a", 0, "h", 1, 2), ("s", "a", 0, "h", 1, 1)], [], [("g", "a", 0, 2)])


# (table, turn, what all rides are worth), reckoned by hand.
WORTH = [
    (row_of_two_table, 4, [("r", 0, 1), ("s", 0, 1)]), (row_of_two_table, 1, [("r", 0, 0), ("s", 0, 0)]),
    (wide_and_narrow_table, 1, [("r", 0, 0), ("s", 0, 0), ("t", 0, 0), ("u", 0, 0), ("v", 0, 0)]),
    (wide_and_narrow_table, 2, [("r", 1, 1), ("s", 0, 0), ("t", 0, 0), ("u", 0, 0), ("v", 0, 0)]),
    (wide_and_narrow_table, 4, [("r", 1, 1), ("s", 0, 0), ("t", 0, 0), ("u", 1, 0), ("v", 0, 0)]),
    (two_rides_table, 2, [("r", 0, 0), ("s", 0, 0)]), (two_rides_table, 0, [("r", 0, 0), ("s", 0, 0)]),
]


def tables():
    return [row_of_two_table(), wide_and_narrow_table(), two_rides_table(), small_table()] + bare_tables() + chance_tables(40)


def with_seats_by_hand(table, ride, by):
    rides = [row[:5] + (row[5] + by,) if row[0] == ride else row for row in table.rides]
    return Table(table.turns, table.places, rides, table.ways, table.groups)


def crosses_by_hand(table, ride, line):
    row = [row for row in table.rides if row[0] == ride][0]
    return (row[1], row[2]) in line[1] and (row[3], row[4]) not in line[1]


def holds_by_hand(table, ride, turn, by, told):
    """Whether a tuple of the right form shows what it tells, as [91] and [92] say."""
    number, plan, line = told
    other = with_seats_by_hand(table, ride, by)
    of = other if (by, number) in ((1, 1), (-1, 0)) else table
    if faults(of, plan) or lets_by_hand(table, turn, line) is None:
        return False
    if (by, number) == (1, 0) and crosses_by_hand(table, ride, line):
        return False
    if (by, number) == (-1, 1) and not crosses_by_hand(table, ride, line):
        return False
    home = home_counts(of, plan)[turn]
    return lets_by_hand(table, turn, line) == (home - 1 if (by, number) == (1, 1) else home)


def asked(of):
    """(table, ride, turn, tell, holds, by) wherever nothing is refused."""
    cases = []
    for table in of:
        for row in table.rides:
            for turn in range(table.turns + 1):
                for tell, holds, by in BOTH:
                    if 0 <= row[5] + by <= 1000:
                        cases.append((table, row[0], turn, tell, holds, by))
    return cases


class SeatsTest(unittest.TestCase):
    def look_at(self, table, ride, turn, tell, holds, by):
        told = tell(table, ride, turn)
        self.assertEqual((told.__class__, told[0].__class__, len(told)), (tuple, int, 3))
        self.assertIn(told[0], (0, 1))
        self.assertTrue(in_order(table, told[2]), told[2])
        self.assertTrue(holds_by_hand(table, ride, turn, by, told), (ride, turn, told))
        self.assertIs(holds(table, ride, turn, told), True)
        return told[0]

    def test_against_the_tables_with_these_seats(self):
        numbers = []
        for table, ride, turn, tell, holds, by in asked(tables()):
            number = self.look_at(table, ride, turn, tell, holds, by)
            other = best_by(with_seats_by_hand(table, ride, by), turn)[1]
            self.assertEqual(number * by, other - best_by(table, turn)[1])
            numbers.append((by, number))
        self.assertGreater(min(numbers.count(kind) for kind in set(numbers)), 20)
        self.assertEqual(len(set(numbers)), 4)

    def test_against_all_plans(self):
        for seed in range(25):
            table = chance_table(seed, people=3, turns=4)
            most = [max(by) for by in zip(*[sums(comers) for comers in least_turns_by_hand(table)])]
            for row in table.rides:
                for tell, holds, by in BOTH:
                    if row[5] + by >= 0:
                        other = with_seats_by_hand(table, row[0], by)
                        then = [max(all_by) for all_by in zip(*[sums(comers) for comers in least_turns_by_hand(other)])]
                        told = [self.look_at(table, row[0], turn, tell, holds, by) for turn in range(table.turns + 1)]
                        self.assertEqual([number * by for number in told], [two - one for one, two in zip(most, then)])

    def test_a_table_at_its_bounds(self):
        table = full_table()
        numbers = []
        for at in range(0, 80, 9):
            for tell, holds, by in BOTH:
                numbers.append((by, self.look_at(table, f"ride{at}", 50, tell, holds, by)))
        self.assertGreater(len(set(numbers)), 2)

    def test_what_is_told_and_changed_is_told_again(self):
        for table in (row_of_two_table(), wide_and_narrow_table()):
            before = table.told()
            for own, ride, turn, tell, holds, by in asked([table]):
                kept = copy.deepcopy(tell(table, ride, turn))
                told = tell(table, ride, turn)
                self.assertEqual(told, kept)
                holds(table, ride, turn, told)
                self.assertEqual(told, kept)
                told[1].clear()
                told[2][0].append("x")
                told[2][1].clear()
                self.assertEqual(tell(table, ride, turn), kept)
            self.assertEqual(table.told(), before)


class RefusedTest(unittest.TestCase):
    def refused(self, error, ride, turn):
        for tell, holds, by in BOTH:
            found = refusal(self, error, tell, wide_and_narrow_table(), ride, turn)
            value, wanted = (found.name, ride) if error is NoRide else (found.found, turn)
            self.assertEqual(value, wanted)
            self.assertIs(value.__class__, wanted.__class__)

    def test_no_ride_goes_first(self):
        for thing in any_things() + ["R", "r ", "g", "h", ("ride", "r"), ["r"]]:
            for turn in (0, 2, 5, -1, True, None, "x", thing):
                self.refused(NoRide, thing, turn)

    def test_no_turn_goes_next(self):
        for thing in any_things() + [5, -1, True, False, "0", [0], (0,), 51]:
            if thing not in (0, 1) or isinstance(thing, bool):
                for ride in ("r", "u", "v"):
                    self.refused(NoTurn, ride, thing)

    def test_no_seat(self):
        table = wide_and_narrow_table()
        for turn in range(5):
            self.assertEqual(refusal(self, NoSeat, seat_more, table, "v", turn).name, "v")
            self.assertEqual(refusal(self, NoSeat, seat_less, table, "u", turn).name, "u")
            self.assertEqual(seat_less(table, "v", turn)[0], 0)
            self.assertEqual(seat_more(table, "u", turn)[0], 1 if turn == 4 else 0)

    def test_seats_beside_the_bounds(self):
        table = wide_and_narrow_table().with_seats("v", 999).with_seats("u", 1)
        for ride, number, tell, holds in (("v", 0, seat_more, more_holds), ("u", 1, seat_less, less_holds)):
            told = tell(table, ride, 4)
            self.assertEqual(told[0], number)
            self.assertIs(holds(table, ride, 4, told), True)


class WorthTest(unittest.TestCase):
    def test_by_hand(self):
        for make, turn, told in WORTH:
            self.assertEqual(worth(make(), turn), told)

    def number(self, tell, table, ride, turn):
        try:
            return tell(table, ride, turn)[0]
        except NoSeat:
            return 0

    def test_as_of_each_ride(self):
        for table in tables():
            for turn in range(min(table.turns, 5) + 1):
                told = worth(table, turn)
                self.assertIs(told.__class__, list)
                self.assertEqual(told, [(row[0], self.number(seat_more, table, row[0], turn),
                                         self.number(seat_less, table, row[0], turn)) for row in table.rides])
                for row in told:
                    self.assertEqual([part.__class__ for part in row], [str, int, int])

    def test_without_rides(self):
        table = bare_tables()[2]
        self.assertEqual(worth(table, 3), [])
        self.assertEqual(refusal(self, NoTurn, worth, table, 4).found, 4)

    def test_turns_that_are_none(self):
        for thing in any_things() + [5, -1, True, False, "0", [0], (0,), 51]:
            if thing not in (0, 1) or isinstance(thing, bool):
                found = refusal(self, NoTurn, worth, small_table(), thing).found
                self.assertEqual(found, thing)
                self.assertIs(found.__class__, thing.__class__)

    def test_names_and_orders_change_nothing(self):
        for seed, table in enumerate(tables()):
            for turn in range(min(table.turns, 5) + 1):
                # What was ride number at is called x and that number there.
                other = {ride: (more, less) for ride, more, less in worth(renamed(table, seed), turn)}
                told = {f"x{at}": (more, less) for at, (ride, more, less) in enumerate(worth(table, turn))}
                self.assertEqual(other, told)

    def test_a_table_at_its_bounds(self):
        told = worth(full_table(), 33)
        self.assertEqual([row[0] for row in told], [f"ride{at}" for at in range(80)])
        for ride, more, less in told[::11]:
            self.assertEqual((more, less), (seat_more(full_table(), ride, 33)[0], seat_less(full_table(), ride, 33)[0]))

    def test_what_is_told_and_changed_is_told_again(self):
        table = wide_and_narrow_table()
        worth(table, 4).clear()
        self.assertEqual(worth(table, 4), WORTH[4][2])


def changes(table, ride, told):
    number, plan, line = told
    groups, spots = line
    others = [(bool(number), plan, line), (str(number), plan, line), (None, plan, line), (2, plan, line), (-1, plan, line),
              list(told), told + (None,), told[:2], told[1:], (number, None, line), (number, list(plan), line)]
    for key in plan:
        others += [(number, {**plan, key: many}, line) for many in (plan[key] + 5000, plan[key] - 1, True, None)]
    others += [(number, plan, other) for other in (
        None, [groups, spots], (groups, spots, []), (tuple(groups), spots), (groups, tuple(spots)),
        (groups + ["nobody"], spots), (groups + groups[:1], spots + spots[:1]), (groups, spots + [("a", True)]),
        (groups, spots + [None]))]
    others += [(number, plan, (groups, spots + [(home, 0)])) for home in table.homes()]
    return others


class HoldsTest(unittest.TestCase):
    def test_each_part_changed(self):
        for table, ride, turn, tell, holds, by in asked(tables()[:20]):
            told = tell(table, ride, turn)
            for other in changes(table, ride, told):
                # A truth for a number is the one change that Python takes for none.
                if other != told or isinstance(other[0], bool):
                    self.assertIs(holds(table, ride, turn, other), False, (table.told(), ride, turn, other))

    def test_the_other_number(self):
        kinds = []
        for table, ride, turn, tell, holds, by in asked(tables()):
            number, plan, line = tell(table, ride, turn)
            other = best_by(with_seats_by_hand(table, ride, by), turn)
            for one in (plan, other[0], {}):
                for two in (line, other[2]):
                    self.assertIs(holds(table, ride, turn, (1 - number, one, two)), False)
                    by_hand = holds_by_hand(table, ride, turn, by, (number, one, two))
                    self.assertIs(holds(table, ride, turn, (number, one, two)), by_hand)
                    kinds.append((by, number, by_hand))
        self.assertEqual(len(set(kinds)), 8)

    def test_other_rides_and_turns(self):
        for table in tables()[:12]:
            cases = asked([table])
            for own, ride, turn, tell, holds, by in cases:
                told = tell(table, ride, turn)
                for own, other, later, tell_other, holds_other, by_other in cases[::3]:
                    by_hand = holds_by_hand(table, other, later, by_other, told)
                    self.assertIs(holds_other(table, other, later, told), by_hand)

    def test_the_line_in_any_order(self):
        for table, ride, turn, tell, holds, by in asked(tables()[:20]):
            number, plan, line = tell(table, ride, turn)
            self.assertIs(holds(table, ride, turn, (number, plan, (line[0][::-1], line[1][::-1]))), True)

    def test_plans_that_have_others_home_behind_the_turn(self):
        table = wide_and_narrow_table().with_seats("u", 1)
        line = (["g"], [("a", turn) for turn in range(5)] + [("h", 3), ("h", 4)])
        three = {("out", "g", 0): 1, ("ride", "r"): 1, ("out", "g", 2): 1, ("ride", "u"): 1, ("out", "f", 1): 2,
                 ("ride", "s"): 2}
        self.assertIs(less_holds(table, "r", 2, (1, three, line)), True)
        four = {**three, ("out", "g", 0): 2, ("ride", "r"): 2}
        self.assertIs(more_holds(table, "r", 2, (1, four, line)), True)
        self.assertIs(more_holds(table, "s", 2, (0, three, line)), True)
        self.assertIs(less_holds(table, "s", 2, (0, three, line)), True)
        self.assertIs(more_holds(table, "r", 2, (0, three, line)), False)

    def test_a_plan_of_two_seats_more(self):
        table = wide_and_narrow_table()
        line = (["g"], [("a", turn) for turn in range(5)] + [("h", 3), ("h", 4)])
        two_more = {("out", "g", 0): 3, ("ride", "r"): 3, ("out", "f", 1): 1, ("ride", "s"): 1}
        one_more = {("out", "g", 0): 2, ("ride", "r"): 2, ("out", "f", 1): 2, ("ride", "s"): 2}
        self.assertIs(more_holds(table, "r", 2, (1, two_more, line)), False)
        self.assertIs(more_holds(table, "r", 2, (1, one_more, line)), True)

    def test_what_is_refused_does_not_hold(self):
        table = wide_and_narrow_table()
        plan, number, line = best_by(table, 4)
        for number in (0, 1):
            told = (number, plan, line)
            self.assertIs(more_holds(table, "v", 4, told), False)
            self.assertIs(less_holds(table, "u", 4, told), False)
            for thing in any_things():
                for holds in (more_holds, less_holds):
                    self.assertIs(holds(table, thing, 4, told), False)
                    if thing not in (0, 1) or isinstance(thing, bool):
                        self.assertIs(holds(table, "r", thing, told), False)

    def test_any_things(self):
        for tell, holds, by in BOTH:
            table = wide_and_narrow_table()
            told = tell(table, "r", 2)
            for thing in any_things() + list(told):
                self.assertIs(holds(table, "r", 2, thing), False)
                self.assertIs(holds(table, thing, thing, thing), False)
                for at in range(3):
                    if thing != told[at] or isinstance(thing, bool):
                        self.assertIs(holds(table, "r", 2, told[:at] + (thing,) + told[at + 1:]), False)


if __name__ == "__main__":
    unittest.main()
