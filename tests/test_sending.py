"""One person more [2], [3], [4], [5], [31], [32]."""

import random
import unittest

from homequay.errors import NoGroup, NoPlan, NoSpot
from homequay.sending import Sending
from homequay.tables import Table
from homequay.walking import faults, home_at, home_counts
from tests.things import (any_things, bare_tables, chance_table, chance_tables, full_table, in_order, moves_by_hand,
                          outs_by_hand, refusal, set_out_by_hand, small_table)

BUS = {("out", "ann.1", 0): 2, ("ride", "bus"): 2, ("ride", "quay"): 2}


def groups_of(table):
    return [row[0] for row in table.groups]


def homes_of(table):
    return [(name, turn) for name in table.homes() for turn in range(table.turns + 1)]


def giving_way_table():
    """Who comes by v finds only x, so who would wait for x must leave by y, ahead of it."""
    return Table(2, [("b", 0), ("c", 0), ("h", None), ("i", None)],
                 [("v", "b", 0, "c", 1, 1), ("x", "c", 1, "h", 2, 1), ("y", "c", 0, "i", 2, 1)], [],
                 [("f", "b", 0, 2), ("g", "c", 0, 2), ("e", "b", 0, 1)])


def grown(before, after):
    """The keys whose numbers grew, and by how much: nothing else may have changed."""
    return {key: after.get(key, 0) - before.get(key, 0) for key in {**before, **after}
            if after.get(key, 0) != before.get(key, 0)}


def state(sending, table):
    return (sending.sent(), [sending.left_of(group) for group in groups_of(table)], sending.near())


class SendingCase(unittest.TestCase):
    def ask_on(self, table, sending, groups, goals):
        """Asks for one person more, and looks at all that is told of it."""
        plan = sending.sent()
        left = {group: sending.left_of(group) for group in groups_of(table)}
        answer = sending.more(groups, goals)
        self.assertEqual(faults(table, sending.sent()), [])
        if answer is True:
            self.look_at_one_more(table, plan, sending, groups, goals)
        else:
            self.assertIs(answer, False)
            self.assertEqual(sending.sent(), plan)
            self.assertEqual({group: sending.left_of(group) for group in groups_of(table)}, left)
            self.look_at_line(table, sending, groups, goals)
        out = set_out_by_hand(sending.sent())
        for name, place, first, many in table.groups:
            self.assertEqual(sending.left_of(name), many - out.get(name, 0))
        return answer

    def look_at_one_more(self, table, plan, sending, groups, goals):
        after = sending.sent()
        of_groups = grown(set_out_by_hand(plan), set_out_by_hand(after))
        at_homes = grown(home_at(table, plan), home_at(table, after))
        self.assertEqual(list(of_groups.values()), [1])
        self.assertEqual(list(at_homes.values()), [1])
        self.assertIn(list(of_groups)[0], groups)
        self.assertIn(list(at_homes)[0], goals)
        self.assertIsNone(sending.near())

    def look_at_line(self, table, sending, groups, goals):
        line = sending.near()
        self.assertTrue(in_order(table, line), line)
        near = set(line[0] + line[1])
        for group in groups:
            self.assertTrue(sending.left_of(group) == 0 or group in near, group)
        for goal in goals:
            self.assertNotIn(goal, near)
        plan = sending.sent()
        for key, tail, head, room, price in outs_by_hand(table) + moves_by_hand(table):
            if tail in near and head not in near:
                self.assertEqual(plan.get(key, 0), room, key)
            if head in near and tail not in near:
                self.assertNotIn(key, plan)


class MoreTest(SendingCase):
    def test_at_the_begin(self):
        for sending in (Sending(small_table()), Sending(small_table(), None), Sending(small_table(), {})):
            self.assertEqual(sending.sent(), {})
            self.assertEqual([sending.left_of(group) for group in ("ann.1", "quay", "bob")], [4, 1, 0])
            self.assertIsNone(sending.near())

    def test_with_a_plan(self):
        sending = Sending(small_table(), BUS)
        self.assertEqual(sending.sent(), BUS)
        self.assertEqual([sending.left_of(group) for group in ("ann.1", "quay", "bob")], [2, 1, 0])
        self.assertIsNone(sending.near())
        self.assertIs(self.ask_on(small_table(), sending, ["ann.1"], [("home", 3)]), True)
        self.assertEqual(home_at(small_table(), sending.sent()), {("home", 3): 3})
        self.assertIs(self.ask_on(small_table(), sending, ["ann.1"], [("home", 3)]), False)

    def test_a_plan_stays_who_sets_out_when(self):
        table = Table(2, [("a", 2), ("h", None)], [], [("w", "a", "h", 1, 2)], [("g", "a", 0, 2), ("f", "a", 0, 2)])
        for early, late in (("g", "f"), ("f", "g")):
            plan = {("out", early, 0): 1, ("out", late, 1): 2, ("walk", "w", 0): 1, ("walk", "w", 1): 2}
            self.assertEqual(Sending(table, plan).sent(), plan)

    def test_plans_that_cant_be_walked(self):
        wrong = [{("out", "ann.1", 0): 1}, {("ride", "no"): 1}, {("out", "quay", 4): 2}, {("out", "quay", 4): True},
                 {("out", "ann.1", 3): 1, ("ride", "late"): 1}, [BUS], (BUS,), list(BUS)]
        for thing in any_things() + wrong:
            if thing is not None and thing != {}:
                found = refusal(self, NoPlan, Sending, small_table(), thing).found
                self.assertEqual(found, thing)
                self.assertIs(found.__class__, thing.__class__)

    def test_where_there_is_room(self):
        sending = Sending(small_table())
        self.assertIs(self.ask_on(small_table(), sending, ["ann.1"], [("home", 3)]), True)
        self.assertIs(self.ask_on(small_table(), sending, ["quay"], [("home", 4)]), True)
        self.assertEqual(sending.sent()[("out", "quay", 4)], 1)
        self.assertEqual(home_counts(small_table(), sending.sent()), [0, 0, 0, 1, 2])

    def test_where_others_must_be_sent_otherwise(self):
        table = giving_way_table()
        sending = Sending(table)
        self.assertIs(self.ask_on(table, sending, ["g"], [("h", 2)]), True)
        self.assertEqual(sending.sent(), {("out", "g", 1): 1, ("ride", "x"): 1})
        self.assertIs(self.ask_on(table, sending, ["f"], [("i", 2)]), True)
        self.assertEqual(sending.sent(), {("out", "g", 0): 1, ("ride", "y"): 1, ("out", "f", 0): 1, ("ride", "v"): 1,
                                          ("ride", "x"): 1})
        self.assertIs(self.ask_on(table, sending, ["g", "f", "e"], [("h", 2), ("i", 2)]), False)

    def test_a_seat_is_given_back_at_a_home(self):
        # The plan has g at the spot ("h", 2), which f takes, while g comes to ("i", 2): nobody more at ("h", 2).
        table = giving_way_table()
        sending = Sending(table, {("out", "g", 1): 1, ("ride", "x"): 1})
        self.assertIs(self.ask_on(table, sending, ["f"], [("i", 2), ("i", 2)]), True)
        self.assertEqual(home_at(table, sending.sent()), {("h", 2): 1, ("i", 2): 1})

    def test_where_it_cant_be_done(self):
        table = small_table()
        sending = Sending(table)
        for groups, goals in ((["ann.1"], [("home", 2)]), (["ann.1"], [("inn", 4)]), (["bob"], [("home", 4)]),
                              (["quay"], [("home", 3)]), (["quay"], [("inn", 4)])):
            self.assertIs(self.ask_on(table, sending, groups, goals), False)
        self.assertEqual(sending.sent(), {})

    def test_no_more_people_than_there_are(self):
        table = Table(1, [("h", None)], [], [], [("g", "h", 0, 2), ("f", "h", 0, 1), ("e", "h", 0, 0)])
        sending = Sending(table)
        answers = [self.ask_on(table, sending, ["g"], [("h", 0)]) for number in range(3)]
        self.assertEqual(answers, [True, True, False])
        answers = [self.ask_on(table, sending, ["e", "g", "f"], [("h", 1)]) for number in range(2)]
        self.assertEqual(answers, [True, False])
        self.assertEqual([sending.left_of(group) for group in "gfe"], [0, 0, 0])
        self.assertEqual(sending.near(), ([], []))

    def test_lists_and_tuples_empty_and_with_one_thing_twice(self):
        table = small_table()
        sending = Sending(table)
        for groups in ([], (), ["ann.1"], ("quay", "quay")):
            for goals in ([], ()):
                self.assertIs(self.ask_on(table, sending, groups, goals), False)
        for empty in ([], ()):
            self.assertIs(self.ask_on(table, sending, empty, [("home", 3)]), False)
            self.assertEqual(sending.near(), ([], []))
        self.assertIs(self.ask_on(table, sending, ("ann.1", "ann.1"), (("home", 3), ("home", 3))), True)
        self.assertIs(self.ask_on(table, sending, ["bob", "ann.1", "bob"], (("inn", 4), ("home", 3), ("inn", 4))), True)
        self.assertEqual(home_counts(table, sending.sent()), [0, 0, 0, 2, 2])

    def test_bare_tables(self):
        for table in bare_tables():
            sending = Sending(table)
            while self.ask_on(table, sending, groups_of(table), homes_of(table)):
                pass

    def test_many_askings_by_chance(self):
        for seed in range(120):
            table = chance_table(seed)
            chance = random.Random(seed)
            sending = Sending(table)
            for number in range(14):
                groups = chance.choices(groups_of(table), k=chance.randint(1, 4))
                goals = chance.choices(homes_of(table), k=chance.randint(1, 4))
                self.ask_on(table, sending, groups, tuple(goals))
                if chance.randint(0, 4) == 0:
                    sending = Sending(table, sending.sent())

    def test_a_table_at_its_bounds(self):
        table = full_table()
        sending = Sending(table)
        for number in range(10):
            self.assertIs(sending.more(groups_of(table), homes_of(table)), True)
        self.assertIs(self.ask_on(table, sending, groups_of(table), [("north", 50)]), True)
        self.assertIs(self.ask_on(table, sending, ["g.1"], [("north", 0)]), False)


class RefusalsTest(SendingCase):
    def sendings(self):
        begun = Sending(small_table(), BUS)
        self.assertIs(begun.more(["ann.1"], [("home", 0)]), False)
        return [Sending(small_table()), begun]

    def look_at_refusal(self, error, groups, goals):
        for sending in self.sendings():
            before = state(sending, small_table())
            refused = refusal(self, error, sending.more, groups, goals)
            self.assertEqual(state(sending, small_table()), before)
        return refused.name if error == NoGroup else refused.found

    def test_no_group(self):
        wrong = any_things() + ["bus", "home", "hill", ("ann.1",), ["ann.1"], ("home", 3), "ann.2"]
        for thing in wrong:
            for groups in ([thing], ("ann.1", thing, "nobody"), ["ann.1", "ann.1", thing, 7]):
                for goals in ([], [("home", 3)], [("quay", 0)], [None]):
                    name = self.look_at_refusal(NoGroup, groups, goals)
                    self.assertEqual(name, thing)
                    self.assertIs(name.__class__, thing.__class__)

    def test_no_home_spot(self):
        wrong = any_things() + [("quay", 0), ("hill", 2), ("home", 5), ("home", -1), ("home", True), ("home", False),
                                ["home", 3], ("home",), ("home", 3, 3), "home", ("home", "3"), ("home", None),
                                ("ann.1", 0), "ann.1", (["home"], 3), ("home", [3]), [("home", 3)]]
        for thing in wrong:
            for goals in ([thing], (("home", 3), thing, None), [("inn", 0), ("inn", 0), thing, 7]):
                for groups in ([], ["ann.1"], ("bob", "bob")):
                    found = self.look_at_refusal(NoSpot, groups, goals)
                    self.assertEqual(found, thing)
                    self.assertIs(found.__class__, thing.__class__)

    def test_left_of_no_group(self):
        for thing in any_things() + ["bus", "home", "hill", ("ann.1",), ["ann.1"]]:
            for sending in self.sendings():
                before = state(sending, small_table())
                name = refusal(self, NoGroup, sending.left_of, thing).name
                self.assertEqual(name, thing)
                self.assertIs(name.__class__, thing.__class__)
                self.assertEqual(state(sending, small_table()), before)


class ToldTest(SendingCase):
    def test_the_line_behind_an_asking(self):
        table = small_table()
        sending = Sending(table)
        self.assertIsNone(sending.near())
        self.assertIs(sending.more(["ann.1"], [("home", 2)]), False)
        line = sending.near()
        self.assertIsNotNone(line)
        self.assertEqual(sending.near(), line)
        refusal(self, NoGroup, sending.more, ["nobody"], [])
        refusal(self, NoSpot, sending.more, [], ["nobody"])
        refusal(self, NoGroup, sending.left_of, "nobody")
        self.assertEqual(sending.near(), line)
        self.assertIs(sending.more(["ann.1"], [("home", 3)]), True)
        self.assertIsNone(sending.near())
        self.assertIs(sending.more([], [("home", 3)]), False)
        self.assertEqual(sending.near(), ([], []))

    def test_the_line_where_all_is_full(self):
        table = Table(1, [("a", 0), ("h", None)], [("r", "a", 0, "h", 1, 1)], [], [("g", "a", 0, 1), ("f", "a", 0, 1)])
        sending = Sending(table, {("out", "g", 0): 1, ("ride", "r"): 1})
        self.assertIs(self.ask_on(table, sending, ["f"], [("h", 1)]), False)
        # The setting out of g leads to the near side and is taken, so g is there too.
        self.assertEqual(sending.near(), (["g", "f"], [("a", 0), ("a", 1)]))

    def test_two_sendings_of_one_table(self):
        table = small_table()
        one = Sending(table)
        other = Sending(table)
        self.assertIs(one.more(["ann.1"], [("home", 3)]), True)
        self.assertEqual(other.sent(), {})
        self.assertIs(other.more(["ann.1"], [("home", 0)]), False)
        self.assertIsNone(one.near())
        third = Sending(table, one.sent())
        before = state(third, table)
        self.assertIs(one.more(["quay"], [("home", 4)]), True)
        self.assertEqual(state(third, table), before)
        self.assertIs(third.more(["ann.1"], [("home", 4)]), True)
        self.assertEqual(one.left_of("ann.1"), 3)
        self.assertEqual(third.left_of("ann.1"), 2)
        self.assertEqual(third.left_of("quay"), 1)

    def test_what_is_handed_in_stays_and_is_a_copy(self):
        table = small_table()
        plan = dict(BUS)
        groups = ["ann.1", "quay"]
        goals = [("home", 3), ("home", 4)]
        sending = Sending(table, plan)
        for number in range(4):
            sending.more(groups, goals)
        self.assertEqual((plan, groups, goals), (BUS, ["ann.1", "quay"], [("home", 3), ("home", 4)]))
        before = state(sending, table)
        plan.clear()
        groups.clear()
        goals.clear()
        self.assertEqual(state(sending, table), before)

    def test_what_is_told_is_the_askers_own(self):
        sending = Sending(small_table(), BUS)
        self.assertIs(sending.more(["ann.1"], [("home", 2)]), False)
        before = state(sending, small_table())
        sending.sent().clear()
        sending.sent()[("ride", "bus")] = 1
        sending.near()[0].append("bob")
        sending.near()[1].clear()
        self.assertEqual(state(sending, small_table()), before)

    def test_the_same_question_has_the_same_answer(self):
        for table in chance_tables(20):
            told = []
            for number in range(2):
                sending = Sending(table)
                while sending.more(groups_of(table), homes_of(table)):
                    pass
                told.append(state(sending, table))
            self.assertEqual(told[0], told[1])


if __name__ == "__main__":
    unittest.main()
