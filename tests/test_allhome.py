"""The turn by which all are home, and homes that alone are open [2], [3], [4], [5], [6], [71], [72], [73]."""

import copy
import unittest

from homequay.allhome import all_home, all_home_holds, by_homes
from homequay.best import best, best_by
from homequay.errors import NoHomes, NoTurn
from homequay.tables import Table
from homequay.walking import faults, home_counts
from tests.things import (any_things, bare_tables, chance_table, chance_tables, full_table, in_order,
                          least_turns_by_hand, lets_by_hand, refusal, renamed, small_table, sums)

PLACES = [("a", 0), ("h", None)]


def at_once_table():
    return Table(3, PLACES, [], [], [("g", "h", 0, 2), ("f", "a", 1, 0)])


def amid_table():
    return Table(5, PLACES, [("r", "a", 0, "h", 2, 1), ("s", "a", 1, "h", 3, 1), ("t", "a", 4, "h", 5, 9)], [],
                 [("g", "a", 0, 2), ("f", "h", 1, 1)])


def at_last_table():
    return Table(2, PLACES, [("r", "a", 0, "h", 1, 2), ("s", "a", 1, "h", 2, 1)], [], [("g", "a", 0, 3)])


def never_table():
    return Table(3, PLACES, [("r", "a", 0, "h", 1, 2), ("s", "a", 2, "h", 3, 1)], [], [("g", "a", 0, 5), ("f", "a", 3, 1)])


# (table, the word and the number that are told), reckoned by hand.
TOLD = [
    (at_once_table, ("home", 0)), (amid_table, ("home", 3)), (at_last_table, ("home", 2)), (never_table, ("never", 3)),
    (small_table, ("home", 4)),
]


def tables():
    return [make() for make, told in TOLD] + bare_tables() + chance_tables(60) + easy_tables(30)


def easy_tables(many):
    """Tables made by chance whose people can mostly all be home."""
    return [with_way_out(chance_table(seed, people=4)) for seed in range(many)]


def with_way_out(table):
    ways = [(f"x{name}", name, "h", 1, 2) for name, room in table.places if room is not None]
    return Table(table.turns, table.places, table.rides, list(table.ways) + ways, table.groups)


class AllHomeTest(unittest.TestCase):
    def look_at(self, table):
        told = all_home(table)
        self.assertIs(told.__class__, tuple)
        word, number, plan, line = told
        self.assertIs(number.__class__, int)
        self.assertEqual(faults(table, plan), [])
        counts = home_counts(table, plan)
        people = sum(row[3] for row in table.groups)
        if word == "never":
            self.assertGreater(number, 0)
            self.assertEqual(counts[-1], people - number)
            self.look_at_line(table, table.turns, line, people - number)
        else:
            self.assertEqual((word, counts[number]), ("home", people))
            if number == 0:
                self.assertIsNone(line)
            else:
                self.assertLess(counts[number - 1], people)
                self.look_at_line(table, number - 1, line, counts[number - 1])
        self.assertIs(all_home_holds(table, told), True)
        return (word, number)

    def look_at_line(self, table, turn, line, number):
        self.assertTrue(in_order(table, line), line)
        self.assertEqual(lets_by_hand(table, turn, line), number)

    def test_told_by_hand(self):
        for make, told in TOLD:
            self.assertEqual(self.look_at(make()), told)

    def test_every_kind_of_answer_comes_up(self):
        told = [self.look_at(table) for table in tables()]
        self.assertGreater(len([word for word, number in told if word == "never"]), 10)
        self.assertGreater(len({number for word, number in told if word == "home"}), 4)

    def test_bare_tables(self):
        told = [self.look_at(table) for table in bare_tables()]
        self.assertEqual(told, [("home", 0), ("home", 0), ("home", 3), ("never", 2), ("never", 3), ("never", 3),
                                ("home", 1), ("home", 0), ("never", 300)])

    def test_without_people(self):
        for table in (bare_tables()[0], bare_tables()[1], bare_tables()[7]):
            self.assertEqual(all_home(table), ("home", 0, {}, None))

    def test_against_all_plans(self):
        for seed in range(120):
            table = chance_table(seed, people=4, turns=4)
            table = with_way_out(table) if seed % 3 == 0 else table
            people = table.people()
            most = [max(by) for by in zip(*[sums(comers) for comers in least_turns_by_hand(table)])]
            wanted = ("home", most.index(people)) if people in most else ("never", people - most[-1])
            self.assertEqual(self.look_at(table), wanted)

    def test_names_and_orders_change_nothing(self):
        for seed, table in enumerate(tables() + [full_table()]):
            self.assertEqual(self.look_at(renamed(table, seed)), self.look_at(table))

    def test_a_table_at_its_bounds(self):
        self.assertEqual(self.look_at(full_table()), ("never", 300 - best_by(full_table(), 50)[1]))
        groups = [(f"g{at}", "p", at % 40, 1) for at in range(300)]
        for wide, told in ((2, ("never", 200)), (6, ("home", 50)), (1000, ("home", 40))):
            table = Table(50, [("p", 1000), ("h", None)], [], [("w", "p", "h", 1, wide)], groups)
            self.assertEqual(self.look_at(table), told)

    def test_what_is_told_and_changed_is_told_again(self):
        for make, told in TOLD:
            table = make()
            before = copy.deepcopy(all_home(table))
            told = all_home(table)
            told[2].clear()
            if told[3] is not None:
                told[3][0].append("x")
                told[3][1].clear()
            self.assertEqual(all_home(table), before)


def changes(table, told):
    """What is told, with one part of it changed so that it is wrong."""
    word, number, plan, line = told
    others = [("never" if word == "home" else "home", number, plan, line), (word.upper(), number, plan, line),
              ([word], number, plan, line), (None, number, plan, line), list(told), told + (None,), told[:3], told[1:]]
    for other in (number + 1, number - 1, bool(number), not number, str(number), None, [number], number + 1000):
        others.append((word, other, plan, line))
    for key in plan:
        for many in (plan[key] + 1, plan[key] - 1, str(plan[key]), True):
            others.append((word, number, {**plan, key: many}, line))
    others += [(word, number, other, line) for other in (None, [], list(plan.items()), {("out", "nobody", 0): 1})]
    if line is None:
        others += [(word, number, plan, other) for other in best(table)[2] + [([], []), (), False]]
    else:
        groups, spots = line
        others += [(word, number, plan, other) for other in (
            None, [groups, spots], (groups, spots, []), (groups,), (tuple(groups), spots), (groups, tuple(spots)),
            (groups + ["nobody"], spots), (groups + groups[:1], spots + spots[:1]), (groups, spots + [("a", True)]),
            (groups, spots + [None]))]
        others += [(word, number, plan, (groups, spots + [(home, 0)])) for home in table.homes()]
    return others


class AllHomeHoldsTest(unittest.TestCase):
    def test_what_is_told(self):
        for table in tables():
            self.assertIs(all_home_holds(table, all_home(table)), True)

    def test_each_part_changed(self):
        for table in tables()[:45]:
            told = all_home(table)
            for other in changes(table, told):
                if other != told or [part.__class__ for part in other] != [part.__class__ for part in told]:
                    self.assertIs(all_home_holds(table, other), False, (table.told(), other))

    def test_the_line_in_any_order(self):
        for table in tables():
            word, number, plan, line = all_home(table)
            if line is not None:
                self.assertIs(all_home_holds(table, (word, number, plan, (line[0][::-1], line[1][::-1]))), True)

    def test_other_plans_and_lines_that_hold_as_well(self):
        table = at_last_table()
        plan = {("out", "g", 0): 2, ("ride", "r"): 2, ("out", "g", 1): 1, ("ride", "s"): 1}
        spots = [("a", 0), ("a", 1), ("a", 2)]
        for more in ([], [("h", 2)]):
            self.assertIs(all_home_holds(table, ("home", 2, plan, (["g"], spots + more))), more == [("h", 2)])
        # Nobody leaves by r: the line lets more than this plan has home by turn 1.
        table = Table(2, PLACES, [("r", "a", 0, "h", 1, 2), ("s", "a", 1, "h", 2, 3)], [], [("g", "a", 0, 3)])
        line = (["g"], spots + [("h", 2)])
        self.assertIs(all_home_holds(table, ("home", 2, {("out", "g", 1): 3, ("ride", "s"): 3}, line)), False)
        mixed = {("out", "g", 0): 2, ("ride", "r"): 2, ("out", "g", 1): 1, ("ride", "s"): 1}
        self.assertIs(all_home_holds(table, ("home", 2, mixed, line)), True)

    def test_lines_of_other_turns(self):
        for table in tables():
            word, number, plan, line = all_home(table)
            counts = home_counts(table, plan)
            needed = table.turns if word == "never" else number - 1
            for turn, other in enumerate(best(table)[2]):
                holds = line is not None and lets_by_hand(table, needed, other) == counts[needed]
                self.assertIs(all_home_holds(table, (word, number, plan, other)), holds)

    def test_a_later_turn_by_which_all_are_home(self):
        for table in tables():
            plan, counts, lines = best(table)
            if counts[-1] == table.people():
                for turn in range(counts.index(table.people()) + 1, table.turns + 1):
                    self.assertIs(all_home_holds(table, ("home", turn, plan, lines[turn - 1])), False)
                self.assertIs(all_home_holds(table, ("never", 0, plan, lines[-1])), False)

    def test_fewer_who_are_never_home(self):
        table = never_table()
        word, number, plan, line = all_home(table)
        fewer = {("out", "g", 0): 2, ("ride", "r"): 2}
        self.assertIs(all_home_holds(table, ("never", 4, fewer, line)), False)
        self.assertIs(all_home_holds(table, ("never", 4, fewer, ([], []))), False)
        self.assertIs(all_home_holds(table, ("never", 6, {}, line)), False)

    def test_any_things(self):
        for table in (small_table(), never_table(), at_once_table()):
            told = all_home(table)
            for thing in any_things() + [told[2], told[3], [told], (told,)]:
                self.assertIs(all_home_holds(table, thing), False, thing)
                for at in range(4):
                    other = told[:at] + (thing,) + told[at + 1:]
                    if thing is not None or told[at] is not None:
                        if thing != told[at] or isinstance(thing, bool):
                            self.assertIs(all_home_holds(table, other), False, other)
                self.assertIs(all_home_holds(table, (thing,) * 4), False)

    def test_what_is_handed_in_stays(self):
        for make, told in TOLD:
            table = make()
            before = table.told()
            told = all_home(table)
            kept = copy.deepcopy(told)
            all_home_holds(table, told)
            self.assertEqual((table.told(), told), (before, kept))


def open_by_hand(table, bits):
    homes = [name for name, room in table.places if room is None]
    is_open = {name: bits // 2 ** at % 2 == 1 for at, name in enumerate(homes)}
    places = [(name, None if is_open.get(name) else room or 0) for name, room in table.places]
    return Table(table.turns, places, table.rides, table.ways, table.groups)


def three_homes_table(seed):
    """A table made by chance, with a third home to which every third ride goes."""
    table = chance_table(seed)
    rides = [row[:3] + ("j",) + row[4:] if at % 3 == 0 else row for at, row in enumerate(table.rides)]
    places = table.places[:2] + (("j", None),) + table.places[2:]
    return Table(table.turns, places, rides, table.ways, table.groups)


class ByHomesTest(unittest.TestCase):
    def look_at(self, table, turn, bits):
        told = by_homes(table, turn, bits)
        self.assertIs(told.__class__, tuple)
        plan, number, line = told
        other = open_by_hand(table, bits)
        self.assertEqual(faults(other, plan), [])
        counts = home_counts(other, plan)
        self.assertEqual(counts[turn:], [number] * (table.turns + 1 - turn))
        self.assertTrue(in_order(other, line))
        self.assertEqual(lets_by_hand(other, turn, line), number)
        self.assertEqual(number, best_by(other, turn)[1])
        return number

    def test_every_number_of_bits(self):
        tables = chance_tables(20) + [three_homes_table(seed) for seed in range(20)]
        for table in tables:
            homes = len(table.homes())
            for turn in (0, table.turns // 2, table.turns):
                numbers = [self.look_at(table, turn, bits) for bits in range(2 ** homes)]
                self.assertEqual(numbers[0], 0)
                self.assertEqual(numbers[-1], best_by(table, turn)[1])
                for one in range(2 ** homes):
                    for two in range(2 ** homes):
                        self.assertGreaterEqual(numbers[one | two], numbers[one])
                        self.assertGreaterEqual(numbers[one] + numbers[two], numbers[one | two] + numbers[one & two])

    def test_bits_count_homes_in_the_order_of_places(self):
        table = Table(2, [("k", None), ("a", 0), ("b", None), ("z", None)],
                      [("r", "a", 0, "k", 1, 1), ("s", "a", 0, "b", 1, 2), ("t", "a", 1, "z", 2, 4)], [], [("g", "a", 0, 9)])
        self.assertEqual([self.look_at(table, 2, bits) for bits in range(8)], [0, 1, 2, 3, 4, 5, 6, 7])
        self.assertEqual([self.look_at(table, 1, bits) for bits in range(8)], [0, 1, 2, 3, 0, 1, 2, 3])

    def test_people_who_stand_at_a_home_that_is_closed(self):
        table = Table(2, [("h", None), ("i", None)], [], [], [("g", "h", 0, 2), ("f", "i", 1, 3)])
        self.assertEqual([self.look_at(table, 2, bits) for bits in range(4)], [0, 2, 3, 5])
        self.assertEqual([self.look_at(table, 0, bits) for bits in range(4)], [0, 2, 0, 2])

    def test_without_homes(self):
        table = bare_tables()[5]
        self.assertEqual(self.look_at(table, 3, 0), 0)
        self.assertEqual(refusal(self, NoHomes, by_homes, table, 3, 1).found, 1)

    def refused(self, error, turn, bits):
        found = refusal(self, error, by_homes, small_table(), turn, bits).found
        wanted = turn if error is NoTurn else bits
        self.assertEqual(found, wanted)
        self.assertIs(found.__class__, wanted.__class__)

    def test_bits_that_are_none(self):
        for thing in any_things() + [4, -1, True, False, "0", "11", [0], [0, 1], (1,), 1000]:
            if thing not in (0, 1) or isinstance(thing, bool):
                self.refused(NoHomes, 2, thing)

    def test_turns_that_are_none_ahead_of_bits_that_are_none(self):
        for thing in any_things() + [5, -1, True, False, "0", [0], (0,), 51]:
            if thing not in (0, 1) or isinstance(thing, bool):
                for bits in (0, 3, 4, -1, True, "1", None, [], thing):
                    self.refused(NoTurn, thing, bits)

    def test_a_table_at_its_bounds(self):
        table = full_table()
        numbers = [self.look_at(table, 50, bits) for bits in range(4)]
        self.assertEqual(numbers[0], 0)
        self.assertGreater(min(numbers[1:3]), 0)
        self.assertGreaterEqual(numbers[3], max(numbers))

    def test_what_is_told_and_changed_is_told_again(self):
        table = small_table()
        before = copy.deepcopy(by_homes(table, 4, 1))
        told = by_homes(table, 4, 1)
        told[0].clear()
        told[2][0].append("x")
        told[2][1].clear()
        self.assertEqual(by_homes(table, 4, 1), before)
        self.assertEqual(table.told(), small_table().told())


if __name__ == "__main__":
    unittest.main()
