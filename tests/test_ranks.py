"""People in an order of ranks [2], [3], [4], [5], [6], [81], [82], [83], [84]."""

import copy
import random
import unittest

from homequay.best import best_by
from homequay.errors import NoOrder, NoTurn
from homequay.ranks import ranked, ranks_hold
from homequay.tables import Table
from homequay.walking import faults, home_counts
from tests.things import (any_things, bare_tables, chance_table, chance_tables, full_table, in_order, lets_by_hand,
                          persons_by_hand, refusal, rooms_by_hand, set_out_by_hand, small_table, together_by_hand)


def ferry_table():
    """Two seats by turn 2 for g and f together, and one more for f alone by turn 3."""
    return Table(4, [("a", 0), ("b", 0), ("h", None)],
                 [("r", "a", 1, "h", 2, 2), ("s", "b", 2, "h", 3, 1), ("t", "b", 0, "a", 1, 9)], [],
                 [("g", "a", 0, 2), ("f", "b", 0, 2), ("e", "b", 0, 0), ("d", "h", 1, 1)])


# (turn, order, who is chosen), of the ferry table, reckoned by hand.
FERRY = [
    (0, [], []), (1, [], [("d", 0)]),
    (2, [], [("g", 0), ("g", 1), ("d", 0)]),
    (2, [("f", 1)], [("f", 1), ("g", 0), ("d", 0)]),
    (2, [("f", 1), ("f", 0)], [("f", 1), ("f", 0), ("d", 0)]),
    (2, [("f", 1), ("g", 1), ("f", 0)], [("f", 1), ("g", 1), ("d", 0)]),
    (2, [("d", 0), ("g", 1)], [("d", 0), ("g", 1), ("g", 0)]),
    (3, [], [("g", 0), ("g", 1), ("f", 0), ("d", 0)]),
    (3, [("f", 0), ("f", 1)], [("f", 0), ("f", 1), ("g", 0), ("d", 0)]),
    (4, [("f", 0), ("g", 1), ("f", 1), ("g", 0)], [("f", 0), ("g", 1), ("f", 1), ("d", 0)]),
]


def chance_order(table, chance):
    persons = persons_by_hand(table)
    order = chance.sample(persons, chance.randint(0, len(persons)))
    return order if chance.randint(0, 1) else tuple(order)


def asked():
    """(table, turn, order), of tables by hand and by chance."""
    cases = [(ferry_table(), turn, order) for turn, order, chosen in FERRY]
    for seed, table in enumerate(bare_tables() + chance_tables(50)):
        chance = random.Random(seed)
        if table.people() < 100:
            cases += [(table, turn, chance_order(table, chance)) for turn in range(table.turns + 1)]
    return cases


def ranks_by_hand(table, order):
    return list(order) + [person for person in persons_by_hand(table) if person not in list(order)]


class RankedTest(unittest.TestCase):
    # Of a large table not every line is added up by hand.
    def look_at(self, table, turn, order, every=1):
        told = ranked(table, turn, order)
        self.assertEqual((told.__class__, [part.__class__ for part in told]), (tuple, [list, dict, list]))
        chosen, plan, left = told
        ranks = ranks_by_hand(table, order)
        self.assertEqual(sorted(chosen + [person for person, line in left]), sorted(persons_by_hand(table)))
        self.assertEqual(chosen, sorted(chosen, key=ranks.index))
        self.assertEqual([person for person, line in left], sorted([person for person, line in left], key=ranks.index))
        self.look_at_plan(table, turn, chosen, plan)
        for person, line in left[::every]:
            ahead = [other for other in chosen if ranks.index(other) < ranks.index(person) and other[0] in line[0]]
            self.assertTrue(in_order(table, line), line)
            self.assertIn(person[0], line[0])
            self.assertIsNotNone(lets_by_hand(table, turn, line))
            self.assertEqual(rooms_by_hand(table, line), len(ahead))
        self.assertIs(ranks_hold(table, turn, order, told), True)
        return chosen

    def look_at_plan(self, table, turn, chosen, plan):
        self.assertEqual(faults(table, plan), [])
        counts = home_counts(table, plan)
        self.assertEqual(counts[turn], counts[-1])
        out = {}
        for group, number in chosen:
            out[group] = out.get(group, 0) + 1
        self.assertEqual(set_out_by_hand(plan), out)

    def test_by_hand(self):
        for turn, order, chosen in FERRY:
            self.assertEqual(self.look_at(ferry_table(), turn, order), chosen)
            self.assertEqual(self.look_at(ferry_table(), turn, tuple(order)), chosen)

    def test_as_many_as_any_plan_has_home(self):
        for table, turn, order in asked():
            most = best_by(table, turn)[1]
            self.assertEqual(len(self.look_at(table, turn, order)), most)
            self.assertEqual(len(self.look_at(table, turn, ranks_by_hand(table, order)[::-1])), most)

    def test_against_all_sets_of_persons(self):
        for seed in range(60):
            table = chance_table(seed, people=4, turns=4)
            chance = random.Random(seed)
            names = [row[0] for row in table.groups]
            for turn in range(table.turns + 1):
                order = chance_order(table, chance)
                together = together_by_hand(table, turn)
                wanted = []
                for person in ranks_by_hand(table, order):
                    groups = [group for group, number in wanted + [person]]
                    if tuple(groups.count(name) for name in names) in together:
                        wanted.append(person)
                self.assertEqual(self.look_at(table, turn, order), wanted)

    def test_a_group_that_is_left_out_stays_so(self):
        for table, turn, order in asked():
            chosen = self.look_at(table, turn, order)
            groups = [person[0] for person in ranks_by_hand(table, order)]
            for name in set(groups):
                of_it = [person in chosen for person in ranks_by_hand(table, order) if person[0] == name]
                self.assertEqual(of_it, sorted(of_it, reverse=True))

    def test_the_order_stays(self):
        order = [("f", 1), ("g", 1)]
        ranked(ferry_table(), 2, order)
        self.assertEqual(order, [("f", 1), ("g", 1)])

    def test_a_table_at_its_bounds(self):
        table = full_table()
        for turn, order in ((0, []), (25, persons_by_hand(table)[::-1]), (50, [("g.7", 0), ("g.299", 0)])):
            self.assertEqual(len(self.look_at(table, turn, order, 40)), best_by(table, turn)[1])
        one = table.with_groups([("all", "p3", 0, 300)])
        self.assertEqual(self.look_at(one, 50, [("all", 299)], 40)[0], ("all", 299))

    def test_what_is_told_and_changed_is_told_again(self):
        table = ferry_table()
        before = copy.deepcopy(ranked(table, 2, [("f", 1)]))
        told = ranked(table, 2, [("f", 1)])
        told[0].clear()
        told[1].clear()
        first = told[2].pop(0)
        first[1][0].append("x")
        first[1][1].clear()
        self.assertEqual(told[2], before[2][1:])
        self.assertEqual(ranked(table, 2, [("f", 1)]), before)
        self.assertEqual(table.told(), ferry_table().told())


# Things that are no persons of the ferry table.
NO_PERSONS = [
    ("g", 2), ("g", -1), ("e", 0), ("nobody", 0), ("a", 0), ("g", True), ("g", False), ("g", "0"), ("g", None), ("g",),
    ("g", 0, 0), (0, "g"), ["g", 0], "g", "g:0", ("G", 0), (["g"], 0), ("g", [0]), ({}, {}), ("g", 10 ** 29),
]


class RefusedTest(unittest.TestCase):
    def at(self, order, turn=2):
        return refusal(self, NoOrder, ranked, ferry_table(), turn, order).at

    def test_neither_list_nor_tuple(self):
        for thing in any_things() + [{("g", 0): 1}, "gg"]:
            if not isinstance(thing, (list, tuple)):
                self.assertIsNone(self.at(thing))

    def test_the_first_that_is_no_person(self):
        for thing in NO_PERSONS + any_things():
            for kind in (list, tuple):
                self.assertEqual(self.at(kind([thing])), 0)
                self.assertEqual(self.at(kind([("g", 0), ("f", 1), thing, ("f", 0)])), 2)
                self.assertEqual(self.at(kind([("g", 0), thing, thing, ("g", 0)])), 1)

    def test_the_first_that_stands_ahead_already(self):
        self.assertEqual(self.at([("g", 0), ("f", 0), ("g", 0), None]), 2)
        self.assertEqual(self.at([("g", 0), ("g", 0)]), 1)
        self.assertEqual(self.at((("g", 0), ("f", 0), ("g", 1), ("f", 0), ("g", 0))), 3)

    def test_any_list_is_an_order_where_it_is_empty(self):
        for empty in ([], ()):
            self.assertEqual(len(ranked(ferry_table(), 2, empty)[0]), 3)

    def test_turns_that_are_none_ahead_of_orders_that_are_none(self):
        for thing in any_things() + [5, -1, True, False, "0", [0], (0,), 51]:
            if thing not in (0, 1) or isinstance(thing, bool):
                for order in ([], None, [("g", 9)], "x", thing):
                    found = refusal(self, NoTurn, ranked, ferry_table(), thing, order).found
                    self.assertEqual(found, thing)
                    self.assertIs(found.__class__, thing.__class__)


def changed_lines(table, left, at):
    person, (groups, spots) = left[at]
    others = [None, [], [groups, spots], (groups, spots, []), (tuple(groups), spots), (groups, tuple(spots)), ([], []),
              ([name for name in groups if name != person[0]], spots), (groups + ["nobody"], spots),
              (groups + [person[0]], spots), (groups, spots + [("a", True)]), (groups, spots + [None])]
    others += [(groups, spots + [(home, 0)]) for home in table.homes()]
    # Without the spot at which the group sets out at its turn, a setting out would cross the line.
    row = table.group_row(person[0])
    others.append((groups, [spot for spot in spots if spot != (row[1], row[2])]))
    return [left[:at] + [(person, line)] + left[at + 1:] for line in others]


def changes(table, told):
    """What is told, with one part of it changed so that it is wrong."""
    chosen, plan, left = told
    others = [list(told), told + ([],), told[:2], (tuple(chosen), plan, left), (chosen, plan, tuple(left)),
              (chosen, list(plan), left), (chosen, None, left), (None, plan, left), (chosen, plan, None),
              (chosen, plan, dict(left))]
    for key in plan:
        for many in (plan[key] + 1, plan[key] - 1, str(plan[key]), True):
            others.append((chosen, {**plan, key: many}, left))
    for at, person in enumerate(chosen):
        others += [(chosen[:at] + chosen[at + 1:], plan, left), (chosen + [person], plan, left),
                   (chosen[:at] + [list(person)] + chosen[at + 1:], plan, left),
                   (chosen[:at] + [("nobody", 0)] + chosen[at + 1:], plan, left),
                   (chosen[:at] + [(person[0], bool(person[1]))] + chosen[at + 1:], plan, left)]
        if at > 0:
            others.append((chosen[:at - 1] + [person, chosen[at - 1]] + chosen[at + 1:], plan, left))
        if left:
            others.append((chosen[:at] + [left[0][0]] + chosen[at + 1:], plan, left))
            others.append((chosen[:at] + [left[0][0]] + chosen[at + 1:], plan, [(person, left[0][1])] + left[1:]))
    for at, (person, line) in enumerate(left):
        others += [(chosen, plan, left[:at] + left[at + 1:]), (chosen, plan, left + [left[at]]),
                   (chosen, plan, left[:at] + [[person, line]] + left[at + 1:]),
                   (chosen, plan, left[:at] + [(person, line, None)] + left[at + 1:]),
                   (chosen, plan, left[:at] + [((person[0], bool(person[1])), line)] + left[at + 1:]),
                   (chosen + [person], plan, left), (chosen + [person], plan, left[:at] + left[at + 1:])]
        if at > 0:
            others.append((chosen, plan, left[:at - 1] + [left[at], left[at - 1]] + left[at + 1:]))
        others += [(chosen, plan, other) for other in changed_lines(table, left, at)]
    return others


class RanksHoldTest(unittest.TestCase):
    def test_each_part_changed(self):
        for table, turn, order in asked()[:90]:
            told = ranked(table, turn, order)
            for other in changes(table, told):
                # A truth for a number is the one change that Python takes for none.
                if other != told or "True" in repr(other) or "False" in repr(other):
                    self.assertIs(ranks_hold(table, turn, order, other), False, (turn, order, other))

    def test_lines_in_any_order_and_the_order_as_a_tuple(self):
        for table, turn, order in asked():
            chosen, plan, left = ranked(table, turn, order)
            turned = [(person, (groups[::-1], spots[::-1])) for person, (groups, spots) in left]
            self.assertIs(ranks_hold(table, turn, tuple(order), (chosen, plan, turned)), True)

    def test_lines_of_other_persons(self):
        kinds = []
        for table, turn, order in asked():
            chosen, plan, left = ranked(table, turn, order)
            ranks = ranks_by_hand(table, order)
            for at, (person, own) in enumerate(left):
                for other, line in left:
                    ahead = [one for one in chosen if ranks.index(one) < ranks.index(person) and one[0] in line[0]]
                    holds = person[0] in line[0] and rooms_by_hand(table, line) == len(ahead)
                    changed = left[:at] + [(person, line)] + left[at + 1:]
                    self.assertIs(ranks_hold(table, turn, order, (chosen, plan, changed)), holds)
                    kinds.append(holds)
        self.assertEqual(set(kinds), {True, False})

    def test_a_line_that_is_filled_by_people_who_rank_behind(self):
        table = Table(2, [("a", 0), ("h", None)], [("r", "a", 0, "h", 1, 1)], [], [("g", "a", 0, 1), ("f", "a", 0, 1)])
        line = (["g", "f"], [("a", 0), ("a", 1), ("a", 2)])
        by_f = ([("f", 0)], {("out", "f", 0): 1, ("ride", "r"): 1}, [(("g", 0), line)])
        self.assertIs(ranks_hold(table, 2, [("f", 0)], by_f), True)
        self.assertIs(ranks_hold(table, 2, [], by_f), False)
        self.assertIs(ranks_hold(table, 0, [("f", 0)], by_f), False)

    def test_a_plan_that_brings_somebody_home_later(self):
        table = ferry_table()
        chosen, plan, left = ranked(table, 2, [])
        later = ranked(table, 3, [("g", 0), ("g", 1), ("d", 0), ("f", 0)])
        self.assertIs(ranks_hold(table, 2, [], (chosen, later[1], left)), False)
        other = Table(2, [("a", 0), ("h", None)], [("r", "a", 0, "h", 1, 1), ("s", "a", 1, "h", 2, 1)], [], [("g", "a", 0, 1)])
        slow = ([("g", 0)], {("out", "g", 1): 1, ("ride", "s"): 1}, [])
        self.assertIs(ranks_hold(other, 1, [], slow), False)
        self.assertIs(ranks_hold(other, 2, [], slow), True)

    def test_other_turns_and_orders(self):
        kinds = []
        for turn, order, chosen in FERRY:
            told = ranked(ferry_table(), turn, order)
            for other, another, wanted in FERRY:
                holds = ranks_hold(ferry_table(), other, another, told)
                kinds.append(holds)
                if chosen != wanted:
                    self.assertIs(holds, False)
            self.assertIs(ranks_hold(ferry_table(), turn, order, told), True)
        self.assertEqual(set(kinds), {True, False})

    def test_turns_and_orders_that_would_be_refused(self):
        told = ranked(ferry_table(), 1, [])
        for thing in any_things() + [5, -1]:
            if thing != 1 or isinstance(thing, bool):
                self.assertIs(ranks_hold(ferry_table(), thing, [], told), False)
        for thing in any_things() + [[person] for person in NO_PERSONS] + [[("g", 0), ("g", 0)]]:
            if thing not in ([], ()):
                self.assertIs(ranks_hold(ferry_table(), 1, thing, told), False)

    def test_any_things(self):
        told = ranked(ferry_table(), 2, [])
        for thing in any_things() + list(told):
            self.assertIs(ranks_hold(ferry_table(), 2, [], thing), False)
            self.assertIs(ranks_hold(ferry_table(), thing, thing, thing), False)
            for at in range(3):
                if thing != told[at]:
                    self.assertIs(ranks_hold(ferry_table(), 2, [], told[:at] + (thing,) + told[at + 1:]), False)
            for at in (0, 2):
                others = told[:at] + ([thing] + told[at],) + told[at + 1:]
                self.assertIs(ranks_hold(ferry_table(), 2, [], others), False)
            for left in ([(thing, told[2][0][1])] + told[2][1:], [(told[2][0][0], thing)] + told[2][1:]):
                self.assertIs(ranks_hold(ferry_table(), 2, [], (told[0], told[1], left)), False)

    def test_what_is_handed_in_stays(self):
        for table, turn, order in asked()[:20]:
            told = ranked(table, turn, order)
            kept = copy.deepcopy((order, told))
            before = table.told()
            ranks_hold(table, turn, order, told)
            self.assertEqual(((order, told), table.told()), (kept, before))


if __name__ == "__main__":
    unittest.main()
