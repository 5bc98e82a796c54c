"""Journeys, drawn of a plan and joined [2], [3], [4], [5], [6], [61], [62], [63], [64]."""

import copy
import random
import unittest

from homequay.best import best
from homequay.cheapest import cheapest
from homequay.errors import NoJourney, NoPlan
from homequay.journeys import journeys_fit, journeys_of, joined
from homequay.steps import step_of
from homequay.tables import Table
from homequay.walking import faults, is_plan
from tests.things import (any_things, bare_tables, chance_plans, chance_tables, full_table, refusal, set_out_by_hand,
                          small_table)

FULL = {
    ("out", "ann.1", 0): 4, ("ride", "bus"): 2, ("ride", "quay"): 2, ("walk", "path", 0): 1,
    ("wait", "quay", 0): 1, ("walk", "path", 1): 1, ("out", "quay", 4): 1,
}
BY_BUS = [("out", "ann.1", 0), ("ride", "bus"), ("ride", "quay")]
ON_FOOT = [("out", "ann.1", 1), ("walk", "path", 1)]
AT_HOME = [("out", "quay", 4)]


def around_table():
    """A plan may lead from a to b and to a again, and all may meet at one spot."""
    return Table(5, [("a", 3), ("b", 3), ("h", None)], [("back", "b", 2, "a", 3, 3), ("on", "a", 3, "h", 5, 9)],
                 [("w", "a", "b", 1, 2), ("v", "b", "h", 1, 2)],
                 [("g", "a", 0, 3), ("f", "b", 1, 2), ("e", "h", 2, 2), ("d", "a", 0, 0)])


AROUND = {
    ("out", "g", 0): 2, ("out", "g", 3): 1, ("walk", "w", 0): 2, ("wait", "b", 1): 3, ("ride", "back"): 2,
    ("ride", "on"): 3, ("out", "f", 1): 1, ("out", "f", 2): 1, ("walk", "v", 2): 2, ("out", "e", 2): 1, ("out", "e", 5): 1,
}


class JourneysCase(unittest.TestCase):
    def look_at_journey(self, table, journey):
        self.assertIs(journey.__class__, tuple)
        group, number, keys = journey
        self.assertIs(number.__class__, int)
        self.assertIs(keys.__class__, list)
        node = group
        for key in keys:
            step = step_of(table, key)
            self.assertEqual(step.tail(), node)
            node = step.head()
        self.assertEqual(keys[0][:2], ("out", group))
        self.assertIn(node[0], table.homes())

    def look_at(self, table, plan):
        kept = dict(plan)
        told = journeys_of(table, plan)
        self.assertEqual(plan, kept)
        self.assertIs(told.__class__, list)
        out = set_out_by_hand(plan)
        persons = [(row[0], number) for row in table.groups for number in range(out.get(row[0], 0))]
        self.assertEqual([journey[:2] for journey in told], persons)
        taken = {}
        for journey in told:
            self.look_at_journey(table, journey)
            for key in journey[2]:
                taken[key] = taken.get(key, 0) + 1
        self.assertEqual(taken, plan)
        self.assertEqual(joined(table, told), plan)
        self.assertEqual(joined(table, tuple(told)), plan)
        self.assertIs(journeys_fit(table, plan, told), True)
        return told


class JourneysOfTest(JourneysCase):
    def test_plans_by_hand(self):
        self.assertEqual(self.look_at(small_table(), {}), [])
        self.assertEqual(self.look_at(small_table(), {("out", "quay", 4): 1}), [("quay", 0, AT_HOME)])
        walk = {("out", "ann.1", 1): 1, ("walk", "path", 1): 1}
        self.assertEqual(self.look_at(small_table(), walk), [("ann.1", 0, ON_FOOT)])
        told = self.look_at(small_table(), FULL)
        self.assertEqual([keys for group, number, keys in told].count(BY_BUS), 2)
        self.assertEqual(told[4], ("quay", 0, AT_HOME))

    def test_a_plan_that_is_led_around_and_crosses_itself(self):
        self.assertEqual(faults(around_table(), AROUND), [])
        told = self.look_at(around_table(), AROUND)
        self.assertEqual([journey[:2] for journey in told],
                         [("g", 0), ("g", 1), ("g", 2), ("f", 0), ("f", 1), ("e", 0), ("e", 1)])

    def test_the_order_of_the_keys_changes_nothing(self):
        turned = dict(reversed(list(AROUND.items())))
        self.assertEqual(journeys_of(around_table(), turned), journeys_of(around_table(), AROUND))

    def test_plans_by_chance(self):
        for table in bare_tables() + chance_tables(60):
            self.look_at(table, best(table)[0])
            self.look_at(table, cheapest(table)[0])
        for table, plan in chance_plans(80):
            self.look_at(table, plan)

    def test_a_table_at_its_bounds(self):
        table = full_table()
        plan = best(table)[0]
        told = self.look_at(table, plan)
        self.assertEqual(len(told), best(table)[1][-1])
        self.look_at(table, cheapest(table)[0])

    def test_what_is_no_plan(self):
        wrong = [{("out", "ann.1", 0): 1}, {**FULL, ("ride", "bus"): 1}, {**FULL, ("out", "quay", 4): 2}, [FULL], (FULL,),
                 {**FULL, ("out", "quay", 4): True}, {**FULL, "x": 1}, list(FULL), [("quay", 0, AT_HOME)]]
        for thing in any_things() + wrong:
            if thing != {}:
                found = refusal(self, NoPlan, journeys_of, small_table(), thing).found
                self.assertEqual(found, thing)
                self.assertIs(found.__class__, thing.__class__)

    def test_what_is_told_and_changed_is_told_again(self):
        table = small_table()
        before = copy.deepcopy(journeys_of(table, FULL))
        told = journeys_of(table, FULL)
        told[0][2].clear()
        told[1][2].append(None)
        self.assertEqual(told[2:], before[2:])
        told.clear()
        self.assertEqual(journeys_of(table, FULL), before)


def no_journeys():
    """Things that are no journeys of the small table."""
    return any_things() + [
        ["ann.1", 0, BY_BUS], ("ann.1", 0, tuple(BY_BUS)), ("ann.1", 0, []), ("ann.1", 0), ("ann.1", 0, BY_BUS, None),
        ("ann.1", 0, None), ("ann.1", 0, "x"), ("ann.1", 0, {}), ("ann.1", 0, {BY_BUS[0]: 1}), (BY_BUS,), BY_BUS,
        ("ann.1", 0, [BY_BUS[0], BY_BUS[2]]), ("ann.1", 0, BY_BUS[::-1]), ("ann.1", 0, BY_BUS[1:]), ("ann.1", 0, BY_BUS[2:]),
        ("ann.1", 0, [BY_BUS[0], BY_BUS[0], BY_BUS[1], BY_BUS[2]]), ("ann.1", 0, [BY_BUS[0], ON_FOOT[1]]),
        ("ann.1", 0, BY_BUS + [("wait", "home", 3)]), ("ann.1", 0, BY_BUS + AT_HOME), ("ann.1", 0, AT_HOME + BY_BUS),
        ("quay", 0, BY_BUS), ("bob", 0, BY_BUS), ("ann.1", 0, AT_HOME), ("ann.1", 0, ON_FOOT + BY_BUS),
        ("ann.1", 0, BY_BUS[:1]), ("ann.1", 0, BY_BUS[:2]), ("ann.1", 0, [("out", "ann.1", 0), ("wait", "quay", 0)]),
        ("ann.1", 4, BY_BUS), ("ann.1", -1, BY_BUS), ("ann.1", 10 ** 29, BY_BUS), ("quay", 1, AT_HOME),
        ("ann.1", True, BY_BUS), ("ann.1", False, BY_BUS), ("ann.1", None, BY_BUS), ("ann.1", "0", BY_BUS),
        ("ann.1", [], BY_BUS), ("nobody", 0, BY_BUS), ("home", 0, AT_HOME), (None, 0, BY_BUS), ([], 0, BY_BUS),
        ({}, 0, BY_BUS), (("ann.1",), 0, BY_BUS), ("ann.1", 0, [("out", "ann.1", True), ("walk", "path", 1)]),
        ("ann.1", 0, [("out", "ann.1", 1), ("walk", "path", True)]),
        ("ann.1", 0, [("out", "ann.1", False), ("ride", "bus"), ("ride", "quay")]),
        ("ann.1", 0, [("out", "ann.1", -1)] + BY_BUS),
        ("ann.1", 0, [["out", "ann.1", 0], ("ride", "bus"), ("ride", "quay")]), ("ann.1", 0, [None]), ("ann.1", 0, [[]]),
        ("ann.1", 0, [{}]), ("ann.1", 0, [BY_BUS[0], None]), ("ann.1", 0, [BY_BUS]), ("ann.1", 0, [("out", "ann.1", [0])]),
        ("bob", 0, [("out", "bob", 3)]),
    ]


class JoinedTest(JourneysCase):
    def test_joined_by_hand(self):
        self.assertEqual(joined(small_table(), []), {})
        self.assertEqual(joined(small_table(), ()), {})
        journeys = [("ann.1", 3, BY_BUS), ("quay", 0, AT_HOME), ("ann.1", 1, ON_FOOT), ("ann.1", 0, BY_BUS)]
        told = {("out", "ann.1", 0): 2, ("ride", "bus"): 2, ("ride", "quay"): 2, ("out", "quay", 4): 1,
                ("out", "ann.1", 1): 1, ("walk", "path", 1): 1}
        for handed in (journeys, tuple(journeys), journeys[::-1]):
            self.assertEqual(joined(small_table(), handed), told)
        self.assertIs(is_plan(small_table(), told), True)

    def test_more_people_than_there_is_room_for(self):
        told = joined(small_table(), [("ann.1", number, ON_FOOT) for number in range(4)])
        self.assertEqual(told, {("out", "ann.1", 1): 4, ("walk", "path", 1): 4})
        self.assertEqual(faults(small_table(), told), [("over", ("walk", "path", 1))])
        late = [("out", "ann.1", 3), ("ride", "late")]
        self.assertEqual(joined(small_table(), [("ann.1", 2, late)]), {late[0]: 1, late[1]: 1})

    def test_what_is_neither_list_nor_tuple(self):
        for thing in any_things() + [FULL, "ann.1", {0: ("ann.1", 0, BY_BUS)}]:
            if not isinstance(thing, (list, tuple)):
                self.assertIsNone(refusal(self, NoJourney, joined, small_table(), thing).at)

    def test_the_place_of_the_first_that_is_none(self):
        for thing in no_journeys():
            for ahead in ([], [("ann.1", 1, BY_BUS)], [("ann.1", 1, BY_BUS), ("ann.1", 2, ON_FOOT), ("quay", 0, AT_HOME)]):
                journeys = ahead + [thing, ("ann.1", 3, BY_BUS), None]
                for handed in (journeys, tuple(journeys)):
                    at = refusal(self, NoJourney, joined, small_table(), handed).at
                    self.assertEqual(at, len(ahead), thing)
                    self.assertIs(at.__class__, int)

    def test_a_person_twice(self):
        journeys = [("ann.1", 1, BY_BUS), ("quay", 0, AT_HOME), ("ann.1", 1, ON_FOOT), ("quay", 0, AT_HOME), None]
        self.assertEqual(refusal(self, NoJourney, joined, small_table(), journeys).at, 2)
        self.assertEqual(refusal(self, NoJourney, joined, small_table(), journeys[:2] + journeys[3:]).at, 2)

    def test_no_keys_where_a_group_and_a_home_are_called_alike(self):
        table = Table(1, [("h", None)], [], [], [("h", "h", 0, 1), ("h.1", "h", 0, 1)])
        for group in ("h", "h.1"):
            self.assertEqual(refusal(self, NoJourney, joined, table, [(group, 0, [])]).at, 0)
            self.assertIs(journeys_fit(table, {}, [(group, 0, [])]), False)
            self.assertEqual(joined(table, [(group, 0, [("out", group, 1)])]), {("out", group, 1): 1})

    def test_journeys_of_any_numbers(self):
        for number in range(4):
            self.assertEqual(len(joined(small_table(), [("ann.1", number, BY_BUS)])), 3)

    def test_what_is_handed_in_stays_and_what_is_told_is_the_askers_own(self):
        journeys = [("ann.1", 1, list(BY_BUS)), ("quay", 0, list(AT_HOME))]
        kept = copy.deepcopy(journeys)
        told = joined(small_table(), journeys)
        before = dict(told)
        self.assertEqual(journeys, kept)
        journeys[0][2].clear()
        self.assertEqual(told, before)
        told.clear()
        self.assertEqual(joined(small_table(), kept), before)


class FitTest(JourneysCase):
    def test_in_any_order_and_by_any_numbers(self):
        table = small_table()
        journeys = journeys_of(table, FULL)
        chance = random.Random(64)
        for number in range(10):
            self.assertIs(journeys_fit(table, FULL, chance.sample(journeys, len(journeys))), True)
        plan = {("out", "ann.1", 1): 1, ("walk", "path", 1): 1}
        for number in range(4):
            self.assertIs(journeys_fit(table, plan, [("ann.1", number, ON_FOOT)]), True)
        self.assertIs(journeys_fit(table, {}, []), True)

    def test_one_left_out_and_one_too_many(self):
        for table, plan in ((small_table(), FULL), (around_table(), AROUND)):
            journeys = journeys_of(table, plan)
            for at in range(len(journeys)):
                self.assertIs(journeys_fit(table, plan, journeys[:at] + journeys[at + 1:]), False)
                self.assertIs(journeys_fit(table, plan, journeys + [journeys[at]]), False)
        self.assertIs(journeys_fit(small_table(), {}, [("quay", 0, AT_HOME)]), False)
        self.assertIs(journeys_fit(small_table(), {("out", "quay", 4): 1}, []), False)
        plan = {("out", "ann.1", 1): 1, ("walk", "path", 1): 1}
        self.assertIs(journeys_fit(small_table(), plan, [("ann.1", 0, ON_FOOT), ("ann.1", 1, BY_BUS)]), False)

    def test_a_step_otherwise(self):
        table = small_table()
        journeys = journeys_of(table, FULL)
        for at, (group, number, keys) in enumerate(journeys):
            for other in (ON_FOOT, BY_BUS, AT_HOME, keys[:-1], keys[1:], tuple(keys)):
                if other != keys:
                    changed = journeys[:at] + [(group, number, other)] + journeys[at + 1:]
                    self.assertIs(journeys_fit(table, FULL, changed), False)

    def test_one_person_twice(self):
        table = small_table()
        plan = {("out", "ann.1", 0): 2, ("ride", "bus"): 2, ("ride", "quay"): 2}
        self.assertIs(journeys_fit(table, plan, [("ann.1", 0, BY_BUS), ("ann.1", 3, BY_BUS)]), True)
        self.assertIs(journeys_fit(table, plan, [("ann.1", 0, BY_BUS), ("ann.1", 0, BY_BUS)]), False)

    def test_plans_that_cant_be_walked(self):
        table = small_table()
        journeys = [("ann.1", number, ON_FOOT) for number in range(2)]
        self.assertIs(journeys_fit(table, joined(table, journeys), journeys), False)
        self.assertIs(journeys_fit(table, {("out", "quay", 4): True}, [("quay", 0, AT_HOME)]), False)
        self.assertIs(journeys_fit(table, {("out", "quay", 4): 1, ("ride", "bus"): 0}, [("quay", 0, AT_HOME)]), False)

    def test_any_things(self):
        table = small_table()
        journeys = journeys_of(table, FULL)
        for thing in any_things() + [tuple(journeys), [journeys], dict(enumerate(journeys)), FULL,
                                     [list(journey) for journey in journeys]]:
            self.assertIs(journeys_fit(table, FULL, thing), False, thing)
            self.assertIs(journeys_fit(table, {}, thing), thing == [], thing)
        for thing in any_things() + [[FULL], (FULL,), list(FULL.items())]:
            self.assertIs(journeys_fit(table, thing, journeys), False, thing)
            for other in any_things():
                self.assertIs(journeys_fit(table, thing, other), thing == {} and other == [], (thing, other))
        for thing in no_journeys():
            self.assertIs(journeys_fit(table, FULL, journeys + [thing]), False, thing)
            self.assertIs(journeys_fit(table, FULL, [thing] + journeys[1:]), False, thing)

    def test_what_is_handed_in_stays(self):
        journeys = journeys_of(small_table(), FULL)
        kept = copy.deepcopy((FULL, journeys))
        journeys_fit(small_table(), FULL, journeys)
        self.assertEqual((FULL, journeys), kept)


if __name__ == "__main__":
    unittest.main()
