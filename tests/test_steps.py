"""The steps of a table [21]."""

import unittest

from homequay.errors import NoStep
from homequay.steps import Ride, SetOut, Step, Wait, Walk, step_of, steps_of
from homequay.tables import Table
from tests.things import any_things, refusal, small_table

# (kind, key, tail, head, room, price)
STEPS = [
    (SetOut, ("out", "ann.1", 0), "ann.1", ("quay", 0), None, 0),
    (SetOut, ("out", "ann.1", 1), "ann.1", ("quay", 1), None, 0),
    (SetOut, ("out", "ann.1", 2), "ann.1", ("quay", 2), None, 0),
    (SetOut, ("out", "ann.1", 3), "ann.1", ("quay", 3), None, 0),
    (SetOut, ("out", "ann.1", 4), "ann.1", ("quay", 4), None, 0),
    (SetOut, ("out", "quay", 4), "quay", ("home", 4), None, 0),
    (SetOut, ("out", "bob", 3), "bob", ("hill", 3), None, 0),
    (SetOut, ("out", "bob", 4), "bob", ("hill", 4), None, 0),
    (Ride, ("ride", "bus"), ("quay", 0), ("hill", 2), 3, 2),
    (Ride, ("ride", "quay"), ("hill", 2), ("home", 3), 2, 1),
    (Ride, ("ride", "late"), ("quay", 3), ("inn", 4), 0, 1),
    (Walk, ("walk", "path", 0), ("quay", 0), ("home", 3), 1, 3),
    (Walk, ("walk", "path", 1), ("quay", 1), ("home", 4), 1, 3),
    (Wait, ("wait", "quay", 0), ("quay", 0), ("quay", 1), 2, 1),
    (Wait, ("wait", "quay", 1), ("quay", 1), ("quay", 2), 2, 1),
    (Wait, ("wait", "quay", 2), ("quay", 2), ("quay", 3), 2, 1),
    (Wait, ("wait", "quay", 3), ("quay", 3), ("quay", 4), 2, 1),
    (Wait, ("wait", "hill", 0), ("hill", 0), ("hill", 1), 0, 1),
    (Wait, ("wait", "hill", 1), ("hill", 1), ("hill", 2), 0, 1),
    (Wait, ("wait", "hill", 2), ("hill", 2), ("hill", 3), 0, 1),
    (Wait, ("wait", "hill", 3), ("hill", 3), ("hill", 4), 0, 1),
]
KEYS = [row[1] for row in STEPS]


def told(step):
    return (step.__class__, step.key(), step.tail(), step.head(), step.room(), step.price())


class StepsTest(unittest.TestCase):
    def test_kinds(self):
        for kind in (Ride, Walk, Wait, SetOut):
            self.assertEqual(kind.__bases__, (Step,))

    def test_all_steps_in_their_order(self):
        self.assertEqual([told(step) for step in steps_of(small_table())], STEPS)

    def test_a_step_by_its_key(self):
        for row in STEPS:
            self.assertEqual(told(step_of(small_table(), row[1])), row)

    def test_the_list_is_the_askers_own(self):
        table = small_table()
        steps_of(table).clear()
        self.assertEqual([told(step) for step in steps_of(table)], STEPS)

    def test_a_table_without_rows(self):
        self.assertEqual(steps_of(Table(50, [], [], [], [])), [])
        self.assertEqual(steps_of(Table(50, [("h", None)], [], [], [])), [])

    def test_a_way_as_long_as_there_are_turns(self):
        for long, turns in ((4, [0]), (5, []), (50, []), (1, [0, 1, 2, 3])):
            table = Table(4, [("a", 0), ("h", None)], [], [("w", "a", "h", long, 7)], [])
            walks = [step for step in steps_of(table) if isinstance(step, Walk)]
            self.assertEqual([told(step) for step in walks], [
                (Walk, ("walk", "w", turn), ("a", turn), ("h", turn + long), 7, long) for turn in turns])
            for turn in range(-1, 6):
                if turn in turns:
                    self.assertEqual(step_of(table, ("walk", "w", turn)).head(), ("h", turn + long))
                else:
                    refusal(self, NoStep, step_of, table, ("walk", "w", turn))

    def test_a_group_at_the_last_turn(self):
        table = Table(3, [("a", 0)], [], [], [("g", "a", 3, 2)])
        self.assertEqual([told(step) for step in steps_of(table)[:-3]],
                         [(SetOut, ("out", "g", 3), "g", ("a", 3), None, 0)])

    def test_no_steps_out_of_homes(self):
        for step in steps_of(small_table()):
            self.assertNotIn(step.tail()[0], ("home", "inn"))
        for turn in range(5):
            refusal(self, NoStep, step_of, small_table(), ("wait", "home", turn))
            refusal(self, NoStep, step_of, small_table(), ("wait", "inn", turn))

    def test_orders_follow_the_table(self):
        table = Table(1, [("z", 1), ("h", None), ("a", 1)], [("s", "z", 0, "h", 1, 1), ("r", "a", 0, "h", 1, 1)],
                      [("v", "z", "a", 1, 1), ("u", "a", "z", 1, 1)], [("y", "z", 0, 1), ("x", "h", 1, 0)])
        self.assertEqual([step.key() for step in steps_of(table)], [
            ("out", "y", 0), ("out", "y", 1), ("out", "x", 1), ("ride", "s"), ("ride", "r"),
            ("walk", "v", 0), ("walk", "u", 0), ("wait", "z", 0), ("wait", "a", 0)])


class NoStepTest(unittest.TestCase):
    def refused(self, thing):
        found = refusal(self, NoStep, step_of, small_table(), thing).found
        self.assertEqual(found, thing)
        self.assertIs(found.__class__, thing.__class__)

    def test_any_thing(self):
        for thing in any_things():
            self.refused(thing)

    def test_keys_near_to_steps(self):
        for key in (("out", "ann.1", 5), ("out", "ann.1", -1), ("out", "quay", 3), ("out", "quay", 5), ("out", "bob", 2),
                    ("out", "hill", 0), ("out", "nobody", 0), ("ride", "path"), ("ride", "hill"), ("ride", "bus", 0),
                    ("ride",), ("bus",), ("out", "ann.1"), ("walk", "path"), ("wait", "quay"), ("walk", "path", 2),
                    ("walk", "path", -1), ("walk", "far", 0), ("walk", "bus", 0), ("wait", "quay", 4),
                    ("wait", "quay", -1), ("wait", "bus", 0), ("out", "ann.1", 0, 0), ("walk", "path", 0, 0),
                    ("wait", "quay", 0, 0), ("Wait", "quay", 0), ("", "quay", 0), (0, "quay", 0), (None, "bus")):
            self.refused(key)

    def test_lists_are_no_keys(self):
        for key in KEYS:
            self.refused(list(key))
            self.refused((key,))
            self.refused([key])

    def test_truths_and_other_things_within_keys(self):
        for key in KEYS:
            for at in range(len(key)):
                for thing in any_things() + [["quay"], "out"]:
                    other = key[:at] + (thing,) + key[at + 1:]
                    if other not in KEYS or isinstance(thing, bool):
                        self.refused(other)

    def test_a_truth_for_a_turn(self):
        for key in (("out", "ann.1", True), ("out", "ann.1", False), ("walk", "path", True), ("walk", "path", False),
                    ("wait", "quay", True), ("wait", "quay", False)):
            self.refused(key)


if __name__ == "__main__":
    unittest.main()
