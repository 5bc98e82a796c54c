"""Prices, and whether they hold for a plan [2], [3], [4], [53], [54]."""

import copy
import unittest

from homequay.best import best
from homequay.cheapest import cheapest, made_less
from homequay.prices import prices_hold
from homequay.tables import Table
from tests.things import (any_things, bare_tables, chance_plans, chance_tables, full_table, prices_by_hand, small_table)


def two_homes_table():
    return Table(2, [("a", 5), ("h", None), ("i", None)],
                 [("r", "a", 0, "h", 1, 2), ("s", "a", 0, "i", 1, 3), ("t", "a", 1, "h", 2, 1)], [],
                 [("g", "a", 0, 4), ("f", "a", 0, 0)])


# Two leave by s, which has room for a third one, nobody by r; two of the group stay.
PLAN = {("out", "g", 0): 2, ("ride", "s"): 2}


def prices_of_two_homes():
    return {
        "g": 0, "f": 0, ("a", 0): 0, ("a", 1): 0, ("a", 2): 0,
        ("h", 0): 7, ("i", 0): 0, ("h", 1): 1, ("i", 1): 1, ("h", 2): 1, ("i", 2): -9,
    }


def with_price(node, price):
    prices = prices_of_two_homes()
    prices[node] = price
    return prices


class HoldTest(unittest.TestCase):
    def hold(self, prices, plan=None):
        told = prices_hold(two_homes_table(), PLAN if plan is None else plan, prices)
        self.assertIs(told.__class__, bool)
        return told

    def test_prices_that_hold(self):
        self.assertTrue(self.hold(prices_of_two_homes()))
        # Nobody comes to a home's spot of the turns 0 and 2, and nobody is of the group f.
        for node, prices in ((("h", 0), (-99, 0, 99)), (("i", 0), (-99, 99)), (("i", 2), (-99, 99)), (("h", 2), (-99, 0, 1)),
                             ("f", (0, 1, 99))):
            for price in prices:
                self.assertTrue(self.hold(with_price(node, price)), (node, price))
        for price in (10 ** 29, 0):
            self.assertTrue(self.hold(with_price("f", price)))

    def test_a_step_that_has_room(self):
        # A wait: from ("a", 0) to ("a", 1), with the price 1. A ride: from ("a", 1) to ("h", 2).
        self.assertTrue(self.hold(with_price(("a", 2), -5)))
        self.assertFalse(self.hold(with_price(("a", 2), 1)))
        self.assertFalse(self.hold(with_price(("h", 2), 2)))
        # Settings out have always room, also of a group without people.
        self.assertFalse(self.hold(with_price("f", -1)))

    def test_a_step_that_has_room_by_one(self):
        table = Table(2, [("a", 1), ("h", None)], [("r", "a", 0, "h", 2, 2)], [], [("g", "a", 1, 0), ("f", "a", 0, 2)])
        prices = {"g": 0, "f": 0, ("a", 0): 0, ("a", 1): 0, ("a", 2): 0, ("h", 0): 0, ("h", 1): 0, ("h", 2): 2}
        self.assertIs(prices_hold(table, {}, prices), True)
        prices[("h", 2)] = 3
        self.assertIs(prices_hold(table, {}, prices), False)
        self.assertIs(prices_hold(table, {("out", "f", 0): 1, ("ride", "r"): 1}, prices), False)
        # When the ride is full its head may cost more.
        self.assertIs(prices_hold(table, {("out", "f", 0): 2, ("ride", "r"): 2}, prices), True)
        prices[("h", 2)] = 1
        self.assertIs(prices_hold(table, {}, prices), True)
        for many in (1, 2):
            self.assertIs(prices_hold(table, {("out", "f", 0): many, ("ride", "r"): many}, prices), False)

    def test_a_wait_that_has_room_by_one(self):
        table = Table(1, [("a", 1)], [], [], [])
        for price, holds in ((-5, True), (0, True), (1, True), (2, False)):
            self.assertIs(prices_hold(table, {}, {("a", 0): 0, ("a", 1): price}), holds)
        closed = Table(1, [("a", 0)], [], [], [])
        self.assertIs(prices_hold(closed, {}, {("a", 0): 0, ("a", 1): 2}), True)

    def test_a_step_that_is_taken(self):
        # ("h", 1) goes with ("i", 1), so that nothing else is broken.
        prices = prices_of_two_homes()
        prices[("i", 1)] = 0
        prices[("h", 1)] = 0
        self.assertFalse(self.hold(prices))
        self.assertTrue(self.hold(prices, {}))
        # A setting out that is taken.
        prices = prices_of_two_homes()
        for node in (("a", 0), ("h", 1), ("i", 1)):
            prices[node] -= 1
        self.assertFalse(self.hold(prices))
        self.assertTrue(self.hold(prices, {}))

    def test_a_group_of_which_somebody_has_not_set_out(self):
        prices = prices_of_two_homes()
        for node in prices:
            prices[node] += 1
        self.assertFalse(self.hold(prices))
        self.assertFalse(self.hold(prices, {}))
        all_out = {("out", "g", 0): 4, ("ride", "s"): 2, ("ride", "r"): 2}
        self.assertTrue(self.hold(prices, all_out))
        self.assertFalse(self.hold(prices, {("out", "g", 0): 3, ("ride", "s"): 2, ("ride", "r"): 1}))

    def test_a_group_of_which_somebody_has_set_out(self):
        prices = prices_of_two_homes()
        for node in prices:
            prices[node] -= 1
        self.assertFalse(self.hold(prices))
        self.assertTrue(self.hold(prices, {}))
        self.assertFalse(self.hold(prices, {("out", "g", 0): 4, ("ride", "s"): 2, ("ride", "r"): 2}))

    def test_another_home_of_the_turn(self):
        self.assertFalse(self.hold(with_price(("h", 1), 0)))
        self.assertTrue(self.hold(with_price(("h", 1), 0), {}))
        self.assertFalse(self.hold(with_price(("h", 1), 0), {("out", "g", 0): 3, ("ride", "s"): 2, ("ride", "r"): 1}))
        # A home's spot of another turn may be less.
        self.assertTrue(self.hold(with_price(("h", 2), -1)))

    def test_the_form_of_prices(self):
        for node in prices_of_two_homes():
            fewer = prices_of_two_homes()
            fewer.pop(node)
            self.assertFalse(self.hold(fewer), node)
            for other in ("nobody", ("a", 3), ("a", -1), ("b", 0), ("a", 0, 0), "a", None, "", 0, ()):
                more = prices_of_two_homes()
                more[other] = 0
                self.assertFalse(self.hold(more), other)
                more.pop(node)
                self.assertFalse(self.hold(more), (node, other))
            for price in (True, False, None, "0", [], (), {}, [0], (0,)):
                self.assertFalse(self.hold(with_price(node, price)), (node, price))

    def test_a_truth_in_the_place_of_a_turn(self):
        for truth in (True, False):
            for name in ("a", "h", "i"):
                prices = prices_of_two_homes()
                price = prices.pop((name, int(truth)))
                prices[(name, truth)] = price
                self.assertEqual(prices, prices_of_two_homes())
                self.assertFalse(self.hold(prices))

    def test_truths_as_prices(self):
        for node, price in prices_of_two_homes().items():
            if price in (0, 1):
                self.assertFalse(self.hold(with_price(node, bool(price))), node)

    def test_plans_that_cant_be_walked(self):
        prices = prices_of_two_homes()
        for plan in ({("out", "g", 0): 1}, {("ride", "s"): 2}, {("out", "g", 0): 4, ("ride", "s"): 4},
                     {**PLAN, ("ride", "r"): 0}, {**PLAN, "x": 1}, {("out", "g", 0): True, ("ride", "s"): True},
                     {("out", "f", 0): 1, ("ride", "s"): 1}):
            self.assertFalse(self.hold(prices, plan), plan)

    def test_any_things(self):
        prices = prices_of_two_homes()
        for thing in any_things() + [list(PLAN), [PLAN], (PLAN,), list(prices.items()), (prices,)]:
            self.assertFalse(self.hold(thing), thing)
            self.assertIs(prices_hold(two_homes_table(), thing, prices), thing == {}, thing)
            for other in any_things():
                self.assertIs(prices_hold(two_homes_table(), thing, other), False)

    def test_tables_with_few_nodes(self):
        empty = Table(1, [], [], [], [])
        self.assertIs(prices_hold(empty, {}, {}), True)
        self.assertIs(prices_hold(empty, {}, {"a": 0}), False)
        home = Table(1, [("h", None)], [], [], [("g", "h", 1, 1)])
        taken = {("out", "g", 1): 1}
        self.assertIs(prices_hold(home, taken, {"g": 4, ("h", 0): 9, ("h", 1): 4}), True)
        self.assertIs(prices_hold(home, taken, {"g": 4, ("h", 0): 9, ("h", 1): 3}), False)
        self.assertIs(prices_hold(home, taken, {"g": 3, ("h", 0): 9, ("h", 1): 4}), False)
        self.assertIs(prices_hold(home, {}, {"g": 0, ("h", 0): 9, ("h", 1): -2}), True)
        self.assertIs(prices_hold(home, {}, {"g": 1, ("h", 0): 9, ("h", 1): -2}), False)

    def test_what_is_handed_in_stays(self):
        prices = prices_of_two_homes()
        kept = copy.deepcopy((PLAN, prices))
        self.assertTrue(self.hold(prices))
        self.assertEqual((PLAN, prices), kept)


class ByHandTest(unittest.TestCase):
    def test_each_price_a_little_otherwise(self):
        answers = []
        plans = [(table, best(table)[0]) for table in bare_tables()[:8] + chance_tables(20)]
        for table, plan in plans + chance_plans(30) + [(small_table(), {}), (two_homes_table(), PLAN)]:
            word, told = made_less(table, plan)
            prices = told if word == "least" else cheapest(table)[1]
            for node in prices:
                for by in (-1, 0, 1):
                    changed = {**prices, node: prices[node] + by}
                    expected = prices_by_hand(table, plan, changed)
                    self.assertIs(prices_hold(table, plan, changed), expected)
                    answers.append(expected)
        self.assertGreater(answers.count(True), 100)
        self.assertGreater(answers.count(False), 100)

    def test_a_table_at_its_bounds(self):
        table = full_table()
        plan, prices = cheapest(table)
        self.assertTrue(prices_by_hand(table, plan, prices))
        self.assertIs(prices_hold(table, plan, prices), True)
        for node in ("g.0", ("p0", 10), ("north", 20)):
            for by in (-60, 60):
                changed = {**prices, node: prices[node] + by}
                self.assertIs(prices_hold(table, plan, changed), prices_by_hand(table, plan, changed))


if __name__ == "__main__":
    unittest.main()
