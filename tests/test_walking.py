"""Plans that can be walked, and what is wrong with others [6], [23], [24], [25]."""

import copy
import unittest

from homequay.errors import NoPlan
from homequay.steps import steps_of
from homequay.tables import Table
from homequay.walking import faults, home_at, home_counts, is_plan, turns_of
from tests.things import any_things, refusal, small_table

# Two by bus and ride, one on foot from turn 0, one on foot from turn 1 behind a wait; one who begins at a home.
FULL = {
    ("out", "ann.1", 0): 4, ("ride", "bus"): 2, ("ride", "quay"): 2, ("walk", "path", 0): 1,
    ("wait", "quay", 0): 1, ("walk", "path", 1): 1, ("out", "quay", 4): 1,
}
LATE = {("out", "ann.1", 1): 1, ("walk", "path", 1): 1}


def with_number(plan, key, many):
    other = dict(plan)
    other[key] = many
    return other


class WalkedTest(unittest.TestCase):
    def test_plans_that_can_be_walked(self):
        for plan in ({}, FULL, LATE, {("out", "quay", 4): 1}):
            self.assertEqual(faults(small_table(), plan), [])
            self.assertIs(is_plan(small_table(), plan), True)

    def test_the_order_of_the_keys_changes_nothing(self):
        turned = dict(reversed(list(FULL.items())))
        self.assertEqual(faults(small_table(), turned), [])
        self.assertEqual(home_counts(small_table(), turned), home_counts(small_table(), FULL))
        self.assertEqual(home_at(small_table(), turned), home_at(small_table(), FULL))
        self.assertEqual(turns_of(small_table(), turned), turns_of(small_table(), FULL))

    def test_what_is_handed_in_stays(self):
        plan = copy.deepcopy(FULL)
        table = small_table()
        for ask in (faults, is_plan, home_counts, home_at, turns_of):
            ask(table, plan)
            self.assertEqual(list(plan.items()), list(FULL.items()))
        self.assertEqual(table.told(), small_table().told())

    def test_told_things_are_the_askers_own(self):
        faults(small_table(), FULL).append(None)
        table = small_table()
        for ask in (faults, home_counts, home_at):
            before = copy.deepcopy(ask(table, FULL))
            ask(table, FULL).clear()
            self.assertEqual(ask(table, FULL), before)


class KeysTest(unittest.TestCase):
    def test_keys_that_are_no_steps(self):
        for key in (None, True, 0, "out", (), ("out",), ("ride", "path"), ("wait", "home", 0), ("wait", "quay", 4),
                    ("wait", "quay", True), ("walk", "far", 0), ("out", "quay", 3), (("ride", "bus"),)):
            self.assertEqual(faults(small_table(), with_number(FULL, key, 1)), [("step", key)])
            self.assertEqual(faults(small_table(), {key: None}), [("step", key)])
            self.assertIs(is_plan(small_table(), with_number(FULL, key, 1)), False)

    def test_a_truth_in_a_key_is_told_as_it_is(self):
        told = faults(small_table(), {("wait", "quay", True): 1})
        self.assertEqual(told, [("step", ("wait", "quay", True))])
        self.assertIs(told[0][1][2], True)

    def test_numbers_that_are_none(self):
        for many in any_things() + ["1", [1]]:
            if many.__class__ is not int or many < 1:
                for key in FULL:
                    self.assertEqual(faults(small_table(), with_number(FULL, key, many)), [("number", key)])
                    self.assertIs(is_plan(small_table(), with_number(FULL, key, many)), False)

    def test_both_in_the_order_of_the_dict_and_nothing_else(self):
        plan = {("wait", "quay", 3): 0, ("ride", "no"): 0, ("ride", "late"): 9, ("out", "bob", 3): True, "x": 1,
                ("ride", "bus"): 99, ("out", "ann.1", 0): "1"}
        told = [("number", ("wait", "quay", 3)), ("step", ("ride", "no")), ("number", ("out", "bob", 3)), ("step", "x"),
                ("number", ("out", "ann.1", 0))]
        self.assertEqual(faults(small_table(), plan), told)
        turned = dict(reversed(list(plan.items())))
        self.assertEqual(faults(small_table(), turned), list(reversed(told)))


class FaultsTest(unittest.TestCase):
    def test_room_at_the_bound_and_one_beyond(self):
        table = Table(2, [("a", 3), ("h", None)], [("r", "a", 0, "h", 1, 4)], [("w", "a", "h", 1, 5)], [("g", "a", 0, 100)])
        for key, room in ((("ride", "r"), 4), (("walk", "w", 0), 5)):
            for many in (1, room, room + 1):
                plan = {("out", "g", 0): many, key: many}
                self.assertEqual(faults(table, plan), [("over", key)] if many > room else [])
        for many in (3, 4):
            plan = {("out", "g", 0): many, ("wait", "a", 0): many, ("walk", "w", 1): many}
            self.assertEqual(faults(table, plan), [("over", ("wait", "a", 0))] if many > 3 else [])

    def test_no_room_at_all(self):
        table = small_table()
        self.assertEqual(faults(table, {("out", "ann.1", 3): 1, ("ride", "late"): 1}), [("over", ("ride", "late"))])

    def test_a_way_has_its_width_at_each_turn(self):
        table = Table(2, [("a", 0), ("h", None)], [], [("w", "a", "h", 1, 2)], [("g", "a", 0, 4)])
        plan = {("out", "g", 0): 2, ("out", "g", 1): 2, ("walk", "w", 0): 2, ("walk", "w", 1): 2}
        self.assertEqual(faults(table, plan), [])

    def test_over_in_the_order_of_all_steps(self):
        table = small_table()
        plan = {}
        for step in reversed(steps_of(table)):
            plan[step.key()] = 10 ** 29
        told = faults(table, plan)
        self.assertEqual([fault for fault in told if fault[0] == "over"],
                         [("over", step.key()) for step in steps_of(table) if step.key()[0] != "out"])

    def test_groups_at_the_bound_and_one_beyond(self):
        table = Table(2, [("h", None)], [], [], [("g", "h", 0, 3), ("e", "h", 1, 0), ("f.1", "h", 0, 1)])
        self.assertEqual(faults(table, {("out", "g", 0): 1, ("out", "g", 1): 1, ("out", "g", 2): 1}), [])
        self.assertEqual(faults(table, {("out", "g", 0): 2, ("out", "g", 2): 2}), [("group", "g")])
        self.assertEqual(faults(table, {("out", "e", 1): 1}), [("group", "e")])
        self.assertEqual(faults(table, {("out", "f.1", 1): 2, ("out", "e", 2): 5, ("out", "g", 0): 4}),
                         [("group", "g"), ("group", "e"), ("group", "f.1")])

    def test_spots_at_which_fewer_or_more_come(self):
        table = small_table()
        self.assertEqual(faults(table, {("out", "ann.1", 0): 1}), [("spot", "quay", 0)])
        self.assertEqual(faults(table, {("walk", "path", 1): 1}), [("spot", "quay", 1)])
        self.assertEqual(faults(table, {("out", "ann.1", 4): 1}), [("spot", "quay", 4)])
        self.assertEqual(faults(table, {("ride", "bus"): 1}), [("spot", "quay", 0), ("spot", "hill", 2)])
        self.assertEqual(faults(table, with_number(FULL, ("ride", "bus"), 1)), [("spot", "quay", 0), ("spot", "hill", 2)])

    def test_spots_by_turns_and_then_by_places(self):
        table = Table(2, [("b", 9), ("a", 9), ("h", None)], [], [], [("g", "a", 0, 9), ("f", "b", 0, 9), ("e", "h", 0, 9)])
        plan = {("out", "g", 2): 1, ("out", "g", 0): 1, ("out", "f", 2): 1, ("out", "f", 1): 1, ("out", "f", 0): 1,
                ("out", "e", 1): 1}
        self.assertEqual(faults(table, plan), [
            ("spot", "b", 0), ("spot", "a", 0), ("spot", "b", 1), ("spot", "b", 2), ("spot", "a", 2)])

    def test_every_fault_in_its_order(self):
        plan = {("wait", "hill", 2): 1, ("out", "quay", 4): 2, ("out", "ann.1", 0): 5, ("ride", "bus"): 4}
        self.assertEqual(faults(small_table(), plan), [
            ("over", ("ride", "bus")), ("over", ("wait", "hill", 2)), ("group", "ann.1"), ("group", "quay"),
            ("spot", "quay", 0), ("spot", "hill", 2), ("spot", "hill", 3)])
        self.assertIs(is_plan(small_table(), plan), False)

    def test_what_is_no_dict(self):
        for thing in any_things() + [list(FULL.items()), tuple(FULL)]:
            if not isinstance(thing, dict):
                found = refusal(self, NoPlan, faults, small_table(), thing).found
                self.assertEqual(found, thing)
                self.assertIs(found.__class__, thing.__class__)

    def test_of_any_thing_whether_it_can_be_walked(self):
        for thing in any_things() + [list(FULL.items()), [FULL], (FULL,)]:
            self.assertIs(is_plan(small_table(), thing), thing == {}, thing)


class ToldTest(unittest.TestCase):
    def test_home_counts(self):
        self.assertEqual(home_counts(small_table(), {}), [0, 0, 0, 0, 0])
        self.assertEqual(home_counts(small_table(), FULL), [0, 0, 0, 3, 5])
        self.assertEqual(home_counts(small_table(), LATE), [0, 0, 0, 0, 1])

    def test_homes_spots(self):
        self.assertEqual(home_at(small_table(), {}), {})
        self.assertEqual(home_at(small_table(), FULL), {("home", 3): 3, ("home", 4): 2})
        self.assertEqual(home_at(small_table(), LATE), {("home", 4): 1})

    def test_turns(self):
        self.assertEqual(turns_of(small_table(), {}), 0)
        self.assertEqual(turns_of(small_table(), FULL), 2 * 2 + 2 * 1 + 3 + 1 + 3)
        self.assertEqual(turns_of(small_table(), LATE), 3)

    def test_several_homes_and_groups_that_stand_there(self):
        table = Table(3, [("h", None), ("a", 4), ("i", None)], [("r", "a", 1, "i", 3, 5)], [("w", "a", "h", 1, 2)],
                      [("g", "h", 0, 3), ("f", "a", 0, 4), ("e", "i", 1, 2)])
        plan = {("out", "g", 0): 1, ("out", "g", 2): 2, ("out", "f", 0): 4, ("wait", "a", 0): 4, ("ride", "r"): 2,
                ("walk", "w", 1): 1, ("wait", "a", 1): 1, ("walk", "w", 2): 1, ("out", "e", 3): 2}
        self.assertEqual(faults(table, plan), [])
        self.assertEqual(home_counts(table, plan), [1, 1, 4, 9])
        self.assertEqual(home_at(table, plan), {("h", 0): 1, ("h", 2): 3, ("i", 3): 4, ("h", 3): 1})
        self.assertEqual(turns_of(table, plan), 4 + 4 + 1 + 1 + 1)

    def test_what_is_no_plan_that_can_be_walked(self):
        wrong = [{("out", "ann.1", 0): 1}, with_number(FULL, ("ride", "bus"), 3), with_number(FULL, "x", 1),
                 with_number(FULL, ("out", "quay", 4), True), with_number(FULL, ("out", "quay", 4), 2), [FULL], None]
        for thing in any_things() + wrong:
            if thing != {}:
                for ask in (home_counts, home_at, turns_of):
                    found = refusal(self, NoPlan, ask, small_table(), thing).found
                    self.assertEqual(found, thing)
                    self.assertIs(found.__class__, thing.__class__)


if __name__ == "__main__":
    unittest.main()
