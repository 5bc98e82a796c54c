"""The web of a table [22]."""

import unittest

from homequay.errors import NoSpot
from homequay.steps import steps_of
from homequay.tables import Table
from homequay.webs import Web, is_spot_of
from tests.things import any_things, refusal, small_table


def keys(steps):
    return [step.key() for step in steps]


def busy_table():
    # At ("a", 2) come and leave steps of every kind.
    return Table(3, [("b", 5), ("a", 6), ("h", None)],
                 [("s", "b", 0, "a", 2, 1), ("r", "b", 1, "a", 2, 2), ("q", "a", 2, "h", 3, 3), ("p", "a", 2, "b", 3, 4)],
                 [("v", "b", "a", 1, 1), ("u", "b", "a", 2, 2), ("t", "a", "b", 1, 3), ("o", "a", "h", 1, 4)],
                 [("g", "a", 0, 1), ("f.1", "a", 2, 1), ("e", "h", 2, 1)])


class SpotsTest(unittest.TestCase):
    def test_every_spot(self):
        web = Web(small_table())
        for place in ("quay", "hill", "home", "inn", "bus", "ann.1"):
            for turn in range(-1, 7):
                expected = place in ("quay", "hill", "home", "inn") and 0 <= turn <= 4
                self.assertIs(web.is_spot((place, turn)), expected)
                self.assertIs(is_spot_of(small_table(), (place, turn)), expected)

    def test_what_is_no_spot(self):
        web = Web(small_table())
        for thing in any_things() + [("quay", True), ("quay", False), ["quay", 0], ("quay",), ("quay", 0, 0), ("quay", "0"),
                                     (["quay"], 0), ("quay", [0]), ("quay", None), (("quay", 0),), "quay", (0, "quay")]:
            self.assertIs(web.is_spot(thing), False, thing)
            self.assertIs(is_spot_of(small_table(), thing), False, thing)


class LeadingTest(unittest.TestCase):
    def test_all_steps(self):
        for table in (small_table(), busy_table()):
            self.assertEqual(keys(Web(table).all_steps()), keys(steps_of(table)))

    def test_leading_out_in_the_order_of_all_steps(self):
        web = Web(busy_table())
        self.assertEqual(keys(web.leading_out(("a", 2))), [
            ("ride", "q"), ("ride", "p"), ("walk", "t", 2), ("walk", "o", 2), ("wait", "a", 2)])
        self.assertEqual(keys(web.leading_out("g")), [("out", "g", 0), ("out", "g", 1), ("out", "g", 2), ("out", "g", 3)])
        self.assertEqual(keys(web.leading_out("f.1")), [("out", "f.1", 2), ("out", "f.1", 3)])
        self.assertEqual(web.leading_out(("a", 3)), [])
        for turn in range(4):
            self.assertEqual(web.leading_out(("h", turn)), [])

    def test_leading_in_in_the_order_of_all_steps(self):
        web = Web(busy_table())
        self.assertEqual(keys(web.leading_in(("a", 2))), [
            ("out", "g", 2), ("out", "f.1", 2), ("ride", "s"), ("ride", "r"), ("walk", "v", 1), ("walk", "u", 0),
            ("wait", "a", 1)])
        self.assertEqual(keys(web.leading_in(("h", 3))), [("out", "e", 3), ("ride", "q"), ("walk", "o", 2)])
        for node in ("g", "f.1", "e", ("b", 0), ("h", 0)):
            self.assertEqual(web.leading_in(node), [])

    def test_each_step_leads_out_of_its_tail_and_to_its_head(self):
        for table in (small_table(), busy_table()):
            web = Web(table)
            spots = [(row[0], turn) for row in table.places for turn in range(table.turns + 1)]
            for node in spots + [row[0] for row in table.groups]:
                self.assertEqual(keys(web.leading_out(node)), [s.key() for s in steps_of(table) if s.tail() == node])
                self.assertEqual(keys(web.leading_in(node)), [s.key() for s in steps_of(table) if s.head() == node])

    def test_a_group_and_a_place_called_alike(self):
        web = Web(small_table())
        self.assertEqual(keys(web.leading_out("quay")), [("out", "quay", 4)])
        self.assertEqual(keys(web.leading_out(("quay", 3))), [("ride", "late"), ("wait", "quay", 3)])

    def test_told_lists_that_are_changed(self):
        web = Web(busy_table())
        for ask in (web.all_steps, lambda: web.leading_out(("a", 2)), lambda: web.leading_in(("a", 2)),
                    lambda: web.leading_out(("h", 1)), lambda: web.leading_out("g")):
            before = keys(ask())
            ask().append(None)
            ask().reverse()
            ask().clear()
            self.assertEqual(keys(ask()), before)
        self.assertEqual(keys(web.all_steps()), keys(steps_of(busy_table())))

    def test_what_is_no_node(self):
        web = Web(small_table())
        for thing in any_things() + [("quay", 5), ("quay", -1), ("quay", True), ("quay", False), ["quay", 0], "hill", "bus",
                                     "path", ("ann.1", 0), ("ann.1",), ["ann.1"], ("quay", 0, 0), ("wait", "quay", 0)]:
            for ask in (web.leading_out, web.leading_in):
                found = refusal(self, NoSpot, ask, thing).found
                self.assertEqual(found, thing)
                self.assertIs(found.__class__, thing.__class__)


if __name__ == "__main__":
    unittest.main()
