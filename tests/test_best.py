"""Plans that are best by one turn and at every turn [2], [3], [4], [6], [41], [42], [43]."""

import copy
import unittest

from homequay.best import best, best_by, is_best
from homequay.errors import NoTurn
from homequay.tables import Table
from homequay.walking import faults, home_counts
from tests.things import (any_things, bare_tables, chance_table, chance_tables, full_table, in_order,
                          least_turns_by_hand, lets_by_hand, refusal, renamed, small_table, sums)


def giving_way_table():
    """Whoever is sent first takes x at turn 1; f can take nothing else, so g must leave by y, ahead of it."""
    return Table(3, [("a", 0), ("h", None)], [("x", "a", 1, "h", 2, 1), ("y", "a", 0, "h", 3, 1)], [],
                 [("g", "a", 0, 1), ("f", "a", 1, 1)])


def chain_table():
    """Each group can take its own ride or the next one, and the last ride is the earliest home."""
    rides = [(f"r{number}", "a", number, "h", 12 - number, 1) for number in range(6)]
    groups = [(f"g.{number}", "a", number, 1) for number in range(6)]
    return Table(12, [("a", 0), ("h", None)], rides, [], groups)


def narrow_table():
    """Rooms, seats and widths of 0."""
    return Table(4, [("a", 0), ("b", 0), ("h", None)],
                 [("r", "a", 1, "b", 2, 2), ("s", "b", 3, "h", 4, 2), ("t", "b", 2, "h", 3, 1), ("u", "a", 0, "h", 1, 0)],
                 [("w", "a", "h", 1, 0)], [("g", "a", 0, 3)])


def two_ways_table():
    return Table(3, [("a", 1), ("h", None), ("i", None)], [("r", "a", 0, "h", 2, 1), ("s", "a", 0, "i", 2, 1)], [],
                 [("g", "a", 0, 1)])


# (table, how many are home by each turn at the most), reckoned by hand.
COUNTS = [
    (small_table, [0, 0, 0, 3, 5]), (giving_way_table, [0, 0, 1, 2]),
    (chain_table, [0] * 7 + [1, 2, 3, 4, 5, 6]), (narrow_table, [0, 0, 0, 1, 1]), (two_ways_table, [0, 0, 1, 1]),
]


def tables():
    return [make() for make, counts in COUNTS] + bare_tables() + chance_tables(60)


class BestCase(unittest.TestCase):
    def look_at_line(self, table, turn, line, number):
        self.assertTrue(in_order(table, line), line)
        self.assertEqual(lets_by_hand(table, turn, line), number)


class BestByTest(BestCase):
    def look_at(self, table, turn):
        plan, number, line = best_by(table, turn)
        self.assertEqual(faults(table, plan), [])
        self.assertIs(number.__class__, int)
        counts = home_counts(table, plan)
        self.assertEqual(counts[turn:], [number] * (table.turns + 1 - turn))
        self.look_at_line(table, turn, line, number)
        return number

    def test_every_turn(self):
        for make, counts in COUNTS:
            table = make()
            self.assertEqual([self.look_at(table, turn) for turn in range(table.turns + 1)], counts)

    def test_bare_tables(self):
        for table in bare_tables():
            for turn in range(table.turns + 1):
                self.look_at(table, turn)
        table = Table(3, [("h", None)], [], [], [("g", "h", 1, 2)])
        self.assertEqual([self.look_at(table, turn) for turn in range(4)], [0, 2, 2, 2])

    def test_by_chance_against_all_plans(self):
        for seed in range(80):
            table = chance_table(seed, people=4, turns=4)
            plans = list(least_turns_by_hand(table))
            for turn in range(table.turns + 1):
                self.assertEqual(self.look_at(table, turn), max(sums(comers)[turn] for comers in plans))

    def test_turns_that_are_none(self):
        for thing in any_things() + [5, -1, True, False, "0", [0], (0,), 51]:
            if thing not in (0, 1) or isinstance(thing, bool):
                found = refusal(self, NoTurn, best_by, small_table(), thing).found
                self.assertEqual(found, thing)
                self.assertIs(found.__class__, thing.__class__)

    def test_a_table_at_its_bounds(self):
        table = full_table()
        numbers = [self.look_at(table, turn) for turn in (0, 7, 33, 50)]
        self.assertEqual(numbers, sorted(numbers))
        self.assertGreater(numbers[3], numbers[1])


class BestTest(BestCase):
    def look_at(self, table):
        told = best(table)
        self.assertIs(told.__class__, tuple)
        plan, counts, lines = told
        self.assertEqual(faults(table, plan), [])
        self.assertEqual(home_counts(table, plan), counts)
        self.assertEqual({number.__class__ for number in counts}, {int})
        self.assertEqual(len(lines), table.turns + 1)
        for turn, line in enumerate(lines):
            self.look_at_line(table, turn, line, counts[turn])
        self.assertIs(is_best(table, plan, lines), True)
        return counts

    def test_counts_by_hand(self):
        for make, counts in COUNTS:
            self.assertEqual(self.look_at(make()), counts)

    def test_each_count_is_that_of_its_turn(self):
        for table in tables():
            counts = self.look_at(table)
            self.assertEqual(counts, [best_by(table, turn)[1] for turn in range(table.turns + 1)])

    def test_by_chance_against_all_plans(self):
        for seed in range(200):
            table = chance_table(seed, people=4, turns=4)
            plans = [sums(comers) for comers in least_turns_by_hand(table)]
            self.assertEqual(self.look_at(table), [max(by) for by in zip(*plans)])

    def test_a_table_at_its_bounds(self):
        table = full_table()
        counts = self.look_at(table)
        self.assertEqual([counts[0], counts[50]], [best_by(table, 0)[1], best_by(table, 50)[1]])

    def test_the_most_of_everything(self):
        places = [(f"p{number}", 1000) for number in range(13)] + [("h", None)]
        rides = [(f"r{number}", f"p{number % 13}", number % 50, "h", 50, 1000) for number in range(80)]
        ways = [(f"w{number}", f"p{number % 13}", f"p{(number + 1) % 13}", 1 + number, 1000) for number in range(40)]
        self.assertEqual(self.look_at(Table(50, places, rides, ways, [("g", "p0", 0, 300)])), [0] * 50 + [300])


class IsBestTest(unittest.TestCase):
    def test_what_is_told(self):
        for table in tables():
            plan, counts, lines = best(table)
            self.assertIs(is_best(table, plan, lines), True)

    def test_lines_in_any_order_of_their_things(self):
        for table in tables()[:20]:
            plan, counts, lines = best(table)
            self.assertIs(is_best(table, plan, [(groups[::-1], spots[::-1]) for groups, spots in lines]), True)

    def test_another_plan_that_is_best_too(self):
        table = two_ways_table()
        lines = best(table)[2]
        for ride in ("r", "s"):
            self.assertIs(is_best(table, {("out", "g", 0): 1, ("ride", ride): 1}, lines), True)
        self.assertIs(is_best(table, {}, lines), False)
        table = small_table()
        other = {("out", "ann.1", 0): 3, ("ride", "bus"): 2, ("ride", "quay"): 2, ("walk", "path", 0): 1,
                 ("out", "ann.1", 1): 1, ("walk", "path", 1): 1, ("out", "quay", 4): 1}
        self.assertIs(is_best(table, other, best(table)[2]), True)

    def test_a_number_of_the_plan_changed(self):
        for table in tables():
            plan, counts, lines = best(table)
            for key in plan:
                for many in (plan[key] + 1, plan[key] - 1, 0, -1, str(plan[key]), None, True):
                    self.assertIs(is_best(table, {**plan, key: many}, lines), False)
                fewer = {other: plan[other] for other in plan if other != key}
                self.assertIs(is_best(table, fewer, lines), False)

    def test_a_plan_that_can_be_walked_and_is_not_best(self):
        table = giving_way_table()
        lines = best(table)[2]
        for plan in ({}, {("out", "g", 0): 1, ("ride", "y"): 1}, {("out", "g", 1): 1, ("ride", "x"): 1}):
            self.assertEqual(faults(table, plan), [])
            self.assertIs(is_best(table, plan, lines), False)

    def test_lines_of_other_turns_fewer_and_more(self):
        for make, counts in COUNTS:
            table = make()
            plan, counts, lines = best(table)
            self.assertIs(is_best(table, plan, lines[:-1]), False)
            self.assertIs(is_best(table, plan, lines[1:]), False)
            self.assertIs(is_best(table, plan, lines + [lines[-1]]), False)
            self.assertIs(is_best(table, plan, tuple(lines)), False)
            self.assertIs(is_best(table, plan, dict(enumerate(lines))), False)
            for turn in range(table.turns):
                if counts[turn] < counts[turn + 1]:
                    swapped = lines[:turn] + [lines[turn + 1], lines[turn]] + lines[turn + 2:]
                    self.assertIs(is_best(table, plan, swapped), False)

    def test_a_line_changed(self):
        table = small_table()
        plan, counts, lines = best(table)
        for turn, (groups, spots) in enumerate(lines):
            for other in (None, [], (), [groups, spots], (groups, spots, []), (groups, tuple(spots)), (tuple(groups), spots),
                          (groups + groups[:1], spots + spots[:1]), (groups + ["nobody"], spots),
                          (groups, spots + [("home", turn)]), (groups, spots + [("quay", True)]), ([], [])):
                if lets_by_hand(table, turn, ([], [])) != counts[turn] or other != ([], []):
                    changed = lines[:turn] + [other] + lines[turn + 1:]
                    self.assertIs(is_best(table, plan, changed), False, (turn, other))

    def test_any_things(self):
        for table in (small_table(), giving_way_table()):
            plan, counts, lines = best(table)
            for thing in any_things() + [[plan], (plan,), list(plan), lines]:
                self.assertIs(is_best(table, thing, lines), False, thing)
            for thing in any_things() + [plan, counts, [lines], (plan, counts, lines)]:
                self.assertIs(is_best(table, plan, thing), False, thing)
                self.assertIs(is_best(table, plan, [thing] * (table.turns + 1)), False, thing)
            for thing in any_things():
                for other in any_things():
                    self.assertIs(is_best(table, thing, other), False)


class WholeTest(unittest.TestCase):
    def test_names_and_orders_change_no_count(self):
        for seed, table in enumerate(tables() + [full_table()]):
            other = renamed(table, seed)
            self.assertEqual(best(other)[1], best(table)[1])

    def test_a_ride_more_and_a_ride_struck_out(self):
        for table in tables():
            counts = best(table)[1]
            for row in table.rides:
                fewer = best(table.without_ride(row[0]))[1]
                self.assertTrue(all(less <= more for less, more in zip(fewer, counts)))
            starts = [name for name, room in table.places if room is not None]
            for start in starts:
                for goal, room in table.places:
                    if goal != start and len(table.rides) < 80:
                        more = best(table.with_ride(("new", start, 0, goal, 1, 2)))[1]
                        self.assertTrue(all(less <= most for less, most in zip(counts, more)))

    def test_what_is_handed_in_stays(self):
        table = giving_way_table()
        before = table.told()
        plan, counts, lines = best(table)
        kept = copy.deepcopy((plan, lines))
        is_best(table, plan, lines)
        best_by(table, 2)
        self.assertEqual((plan, lines), kept)
        self.assertEqual(table.told(), before)

    def test_what_is_told_and_changed_is_told_again(self):
        for table in (small_table(), giving_way_table()):
            for ask in (best, lambda of: best_by(of, 2)):
                before = copy.deepcopy(ask(table))
                told = ask(table)
                self.assertEqual(told, before)
                told[0].clear()
                for line in told[2] if ask is best else [told[2]]:
                    line[0].append("x")
                    line[1].clear()
                if ask is best:
                    told[1].clear()
                    told[2].clear()
                self.assertEqual(ask(table), before)

    def test_the_lines_share_nothing(self):
        lines = best(Table(3, [("a", 0), ("h", None)], [], [], [("g", "a", 0, 1)]))[2]
        before = copy.deepcopy(lines[1:])
        lines[0][0].clear()
        lines[0][1].clear()
        self.assertEqual(lines[1:], before)


if __name__ == "__main__":
    unittest.main()
