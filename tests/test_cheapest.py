"""Plans of the least turns on the way [2], [3], [4], [5], [6], [55], [56]."""

import copy
import unittest

from homequay.best import best, is_best
from homequay.cheapest import cheapest, made_less
from homequay.errors import NoPlan
from homequay.prices import prices_hold
from homequay.tables import Table
from homequay.walking import faults, home_counts, turns_of
from tests.things import (any_things, bare_tables, chance_plans, chance_table, chance_tables, full_table,
                          least_turns_by_hand, prices_by_hand, refusal, renamed, small_table)

# In the small table: two by bus, two on foot, one of them behind a wait that need not be.
WAITS = {
    ("out", "ann.1", 0): 4, ("ride", "bus"): 2, ("ride", "quay"): 2, ("walk", "path", 0): 1,
    ("wait", "quay", 0): 1, ("walk", "path", 1): 1, ("out", "quay", 4): 1,
}


def early_table():
    """Home by turn 3 comes only who takes the slow ride, of three turns."""
    return Table(5, [("a", 0), ("h", None)], [("slow", "a", 0, "h", 3, 1), ("quick", "a", 3, "h", 4, 1)], [],
                 [("g", "a", 0, 1)])


def late_table():
    """The slow ride and the quick one, at another home, come at the same turn."""
    return Table(5, [("a", 0), ("h", None), ("i", None)], [("slow", "a", 0, "h", 4, 1), ("quick", "a", 3, "i", 4, 1)], [],
                 [("g", "a", 0, 1)])


def exchange_table():
    """Who comes to b on foot finds only x, so that who stands there must take y, of more turns."""
    return Table(4, [("a", 0), ("b", 0), ("h", None)],
                 [("x", "b", 2, "h", 4, 1), ("y", "b", 0, "h", 4, 1)], [("w", "a", "b", 2, 1)],
                 [("f", "a", 0, 1), ("g", "b", 0, 1)])


def rooms_of_none():
    return Table(4, [("a", 0), ("b", 0), ("h", None)],
                 [("r", "a", 1, "b", 2, 2), ("t", "b", 2, "h", 3, 1), ("u", "a", 0, "h", 1, 0)],
                 [("w", "a", "h", 1, 0)], [("g", "a", 0, 3)])


# (table, the least turns of a plan that is best at every turn), reckoned by hand.
TURNS = [
    (small_table, 2 * 3 + 3 + 3), (early_table, 3), (late_table, 1), (exchange_table, 4 + 4), (rooms_of_none, 2),
]


def tables():
    return [make() for make, turns in TURNS] + bare_tables() + chance_tables(80)


def comers(counts):
    return tuple(by_then - ahead for ahead, by_then in zip([0] + counts, counts))


class CheapestTest(unittest.TestCase):
    def look_at(self, table):
        told = cheapest(table)
        self.assertIs(told.__class__, tuple)
        plan, prices = told
        self.assertEqual(faults(table, plan), [])
        self.assertIs(is_best(table, plan, best(table)[2]), True)
        self.assertIs(prices_hold(table, plan, prices), True)
        self.assertTrue(prices_by_hand(table, plan, prices))
        return turns_of(table, plan)

    def test_turns_by_hand(self):
        for make, turns in TURNS:
            self.assertEqual(self.look_at(make()), turns)

    def test_who_waits_beside_the_rooms_takes_no_turns(self):
        table = Table(9, [("a", 9), ("h", None)], [("r", "a", 8, "h", 9, 2)], [], [("g", "a", 0, 2), ("f", "a", 9, 1)])
        self.assertEqual(cheapest(table)[0], {("out", "g", 8): 2, ("ride", "r"): 2})

    def test_several_groups_at_one_spot(self):
        table = Table(3, [("a", 2), ("h", None)], [], [("w", "a", "h", 1, 2)],
                      [("g", "a", 0, 2), ("f", "a", 0, 1), ("e", "a", 1, 3), ("d", "a", 0, 0), ("c", "a", 0, 1)])
        self.assertEqual(self.look_at(table), 6)

    def test_bare_tables(self):
        for table in bare_tables():
            self.look_at(table)
        self.assertEqual(cheapest(Table(1, [], [], [], [])), ({}, {}))

    def test_by_chance_against_all_plans(self):
        for seed in range(200):
            table = chance_table(seed, people=4, turns=4)
            least = least_turns_by_hand(table)
            self.assertEqual(self.look_at(table), least[comers(best(table)[1])])

    def test_larger_ones_by_chance(self):
        for seed in range(40):
            self.look_at(chance_table(seed, people=40, turns=12))

    def test_a_table_at_its_bounds(self):
        self.assertGreater(self.look_at(full_table()), 0)

    def test_the_most_of_everything(self):
        places = [(f"p{number}", 1000) for number in range(13)] + [("h", None)]
        rides = [(f"r{number}", f"p{number % 13}", number % 50, "h", 50, 1000) for number in range(80)]
        ways = [(f"w{number}", f"p{number % 13}", f"p{(number + 1) % 13}", 1 + number, 1000) for number in range(40)]
        # The last rides leave at turn 49, from p10, and from p0 at turn 39; on foot from p0 to p10 it is 10 turns at least.
        turns = self.look_at(Table(50, places, rides, ways, [("g", "p0", 0, 300)]))
        self.assertEqual(turns % 300, 0)
        self.assertLessEqual(turns, 300 * 11)

    def test_names_and_orders_change_no_least_number_of_turns(self):
        for seed, table in enumerate(tables() + [full_table()]):
            other = renamed(table, seed)
            self.assertEqual(turns_of(other, cheapest(other)[0]), turns_of(table, cheapest(table)[0]))

    def test_what_is_told_and_changed_is_told_again(self):
        table = exchange_table()
        before = copy.deepcopy(cheapest(table))
        told = cheapest(table)
        self.assertEqual(told, before)
        told[0].clear()
        told[1].clear()
        self.assertEqual(cheapest(table), before)
        self.assertEqual(table.told(), exchange_table().told())


class MadeLessTest(unittest.TestCase):
    def look_at(self, table, plan):
        """Makes a plan less until it is least, and tells the turns by which it is."""
        kept = dict(plan)
        told = made_less(table, plan)
        self.assertIs(told.__class__, tuple)
        self.assertEqual(plan, kept)
        word, other = told
        if word == "least":
            self.assertIs(prices_hold(table, plan, other), True)
            self.assertTrue(prices_by_hand(table, plan, other))
            return turns_of(table, plan)
        self.assertEqual(word, "less")
        self.assertEqual(faults(table, other), [])
        self.assertEqual(home_counts(table, other), home_counts(table, plan))
        self.assertLess(turns_of(table, other), turns_of(table, plan))
        return self.look_at(table, other)

    def test_nobody(self):
        for table in tables():
            word, prices = made_less(table, {})
            self.assertEqual(word, "least")
            self.assertIs(prices_hold(table, {}, prices), True)

    def test_a_plan_that_has_the_least_turns(self):
        plan = {("out", "g", 3): 1, ("ride", "quick"): 1}
        self.assertEqual(made_less(late_table(), plan)[0], "least")
        self.assertEqual(self.look_at(late_table(), plan), 1)
        self.assertEqual(made_less(early_table(), {("out", "g", 0): 1, ("ride", "slow"): 1})[0], "least")

    def test_plans_that_have_not(self):
        word, other = made_less(late_table(), {("out", "g", 0): 1, ("ride", "slow"): 1})
        self.assertEqual((word, other), ("less", {("out", "g", 3): 1, ("ride", "quick"): 1}))
        word, other = made_less(small_table(), WAITS)
        self.assertEqual(word, "less")
        self.assertEqual(self.look_at(small_table(), WAITS), 12)

    def test_who_comes_home_later_is_not_sent_earlier(self):
        table = Table(4, [("a", 1), ("h", None)], [("r", "a", 0, "h", 1, 1), ("s", "a", 0, "h", 4, 1)], [],
                      [("g", "a", 0, 1)])
        self.assertEqual(self.look_at(table, {("out", "g", 0): 1, ("ride", "s"): 1}), 4)

    def test_other_plans_with_as_few_turns_have_prices_too(self):
        table = Table(2, [("a", 1), ("h", None), ("i", None)],
                      [("r", "a", 0, "h", 2, 1), ("s", "a", 0, "i", 2, 1), ("t", "a", 0, "i", 2, 1)], [],
                      [("g", "a", 0, 1), ("f", "a", 0, 1), ("e", "a", 0, 0)])
        for group in ("g", "f"):
            for ride in ("r", "s", "t"):
                self.assertEqual(made_less(table, {("out", group, 0): 1, ("ride", ride): 1})[0], "least")
                self.assertEqual(self.look_at(table, {("out", group, 0): 1, ("ride", ride): 1}), 2)

    def test_best_plans(self):
        for table in tables():
            plan = best(table)[0]
            self.assertEqual(self.look_at(table, plan), turns_of(table, cheapest(table)[0]))

    def test_the_cheapest_plans_are_least(self):
        for table in tables():
            self.assertEqual(made_less(table, cheapest(table)[0])[0], "least")

    def test_plans_by_chance(self):
        words = [made_less(table, plan)[0] for table, plan in chance_plans(150)]
        self.assertGreater(words.count("less"), 30)
        self.assertGreater(words.count("least"), 30)
        for table, plan in chance_plans(150):
            self.look_at(table, plan)

    def test_plans_by_chance_against_all_plans(self):
        looked_at = 0
        for table, plan in chance_plans(80):
            if table.people() <= 4 and table.turns <= 4:
                least = least_turns_by_hand(table)[comers(home_counts(table, plan))]
                self.assertEqual(self.look_at(table, plan), least)
                looked_at += 1
        self.assertGreater(looked_at, 10)

    def test_a_table_at_its_bounds(self):
        table = full_table()
        self.assertEqual(self.look_at(table, best(table)[0]), turns_of(table, cheapest(table)[0]))

    def test_what_is_no_plan(self):
        wrong = [{("out", "ann.1", 0): 1}, {**WAITS, ("ride", "bus"): 1}, {**WAITS, ("out", "quay", 4): 2}, [WAITS],
                 (WAITS,), {**WAITS, ("out", "quay", 4): True}, {**WAITS, "x": 1}, list(WAITS)]
        for thing in any_things() + wrong:
            if thing != {}:
                found = refusal(self, NoPlan, made_less, small_table(), thing).found
                self.assertEqual(found, thing)
                self.assertIs(found.__class__, thing.__class__)

    def test_what_is_told_and_changed_is_told_again(self):
        for plan in ({}, WAITS):
            before = copy.deepcopy(made_less(small_table(), plan))
            told = made_less(small_table(), plan)
            told[1].clear()
            self.assertEqual(made_less(small_table(), plan), before)
        turned = dict(reversed(list(WAITS.items())))
        self.assertEqual(made_less(small_table(), turned), made_less(small_table(), WAITS))


if __name__ == "__main__":
    unittest.main()
