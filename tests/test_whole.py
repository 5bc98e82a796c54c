"""The whole program, from a text to a day of changes [1] to [7], and its interface."""

import copy
import importlib
import inspect
import unittest

from homequay.allhome import all_home, all_home_holds, by_homes
from homequay.best import best, best_by, is_best
from homequay.cheapest import cheapest, made_less
from homequay.days import Day
from homequay.desk import Desk
from homequay.errors import (BadLine, BadTable, Gone, NoGroup, NoHomes, NoJourney, NoOrder, NoPlace, NoPlan, NoRide, NoRow,
                             NoSeat, NoSpot, NoStep, NoTurn, NoWay, QuayError)
from homequay.journeys import joined, journeys_fit, journeys_of
from homequay.lines import is_line, lets, rooms_across
from homequay.prices import prices_hold
from homequay.ranks import ranked, ranks_hold
from homequay.rests import rest_of
from homequay.seats import less_holds, more_holds, seat_less, seat_more, worth
from homequay.sending import Sending
from homequay.steps import step_of, steps_of
from homequay.tables import Table
from homequay.tabletext import read_table, show_table
from homequay.walking import faults, home_at, home_counts, is_plan, turns_of
from homequay.webs import Web
from tests.things import (bare_tables, chance_table, chance_tables, full_table, in_order, lets_by_hand, persons_by_hand,
                          prices_by_hand, refusal, renamed, rooms_by_hand, set_out_by_hand, small_table)

# The names of each file that the document's interface tells, and how many arguments they have.
INTERFACE = {
    "words": {"is_whole": 1, "is_within": 3, "is_name": 1, "is_group_name": 1, "number_of": 1},
    "tables": {"Table": 5},
    "tabletext": {"read_table": 1, "show_table": 1},
    "steps": {"steps_of": 1, "step_of": 2},
    "webs": {"Web": 1, "is_spot_of": 2},
    "walking": {"faults": 2, "is_plan": 2, "home_counts": 2, "home_at": 2, "turns_of": 2},
    "sending": {"Sending": 2},
    "lines": {"rooms_across": 2, "lets": 3, "is_line": 4},
    "best": {"best_by": 2, "best": 1, "is_best": 3},
    "heaps": {"Heap": 0, "is_heap": 1},
    "prices": {"prices_hold": 3},
    "cheapest": {"made_less": 2, "cheapest": 1},
    "journeys": {"journeys_of": 2, "joined": 2, "journeys_fit": 3},
    "allhome": {"all_home": 1, "all_home_holds": 2, "by_homes": 3},
    "ranks": {"ranked": 3, "ranks_hold": 4},
    "seats": {"seat_more": 3, "seat_less": 3, "worth": 2, "more_holds": 4, "less_holds": 4},
    "rests": {"rest_of": 3},
    "days": {"Day": 1},
    "saying": {},
    "desk": {"Desk": 1},
    "errors": {"BadTable": 3, "BadLine": 2, "NoPlace": 1, "NoRide": 1, "NoWay": 1, "NoGroup": 1, "NoHomes": 1, "NoTurn": 1,
               "NoStep": 1, "NoSpot": 1, "NoPlan": 1, "NoJourney": 1, "NoOrder": 1, "NoSeat": 1, "Gone": 1, "NoRow": 1},
}
METHODS = {
    ("tables", "Table"): {
        "told": 0, "is_place": 1, "is_home": 1, "is_group": 1, "room_of": 1, "homes": 0, "ride_row": 1, "way_row": 1,
        "group_row": 1, "people": 0, "with_ride": 1, "with_groups": 1, "without_ride": 1, "with_seats": 2, "with_later": 2,
        "with_homes": 1},
    ("steps", "Step"): {"key": 0, "tail": 0, "head": 0, "room": 0, "price": 0},
    ("webs", "Web"): {"all_steps": 0, "is_spot": 1, "leading_out": 1, "leading_in": 1},
    ("sending", "Sending"): {"more": 2, "sent": 0, "left_of": 1, "near": 0},
    ("heaps", "Heap"): {"put": 1, "take": 0, "many": 0, "rows": 0},
    ("days", "Day"): {
        "now": 0, "since": 0, "home_then": 0, "home_now": 0, "table_now": 0, "plan_now": 0, "lines": 0, "standing": 0,
        "counts": 0, "walked": 0, "go": 1, "strike": 1, "put_in": 1, "seats_of": 2, "later": 2},
    ("desk", "Desk"): {"say": 1},
}


class InterfaceTest(unittest.TestCase):
    def test_names_and_arguments(self):
        for file, names in INTERFACE.items():
            module = importlib.import_module("homequay." + file)
            for name, many in names.items():
                self.assertEqual(len(inspect.signature(getattr(module, name)).parameters), many, (file, name))

    def test_methods(self):
        for (file, owner), names in METHODS.items():
            kind = getattr(importlib.import_module("homequay." + file), owner)
            for name, many in names.items():
                # The object itself is the first argument.
                self.assertEqual(len(inspect.signature(getattr(kind, name)).parameters), many + 1, (owner, name))

    def test_no_table_is_made_of_nothing(self):
        error = importlib.import_module("homequay.errors").NoTable()
        self.assertEqual(error.__class__.__bases__, (QuayError,))


TEXT = """turns 8
place a 4
place b 2
home h
place c 0
home i
ride bus a 1 b 2 3
ride boat b 3 h 4 2
ride late b 5 i 7 2
ride car a 4 h 6 1
ride full c 2 i 5 1000
way path a h 5 1
way lane c b 1 0
group g a 0 5
group f.1 b 2 1
group e h 3 1
group d c 0 2"""


def texts():
    tables = [small_table()] + bare_tables()[:8] + chance_tables(15)
    return [TEXT] + [show_table(table) for table in tables]


class PipelineTest(unittest.TestCase):
    def look_at_line(self, table, turn, line, number):
        self.assertTrue(in_order(table, line))
        self.assertEqual(lets_by_hand(table, turn, line), number)

    def look_at_plans(self, table):
        plan, prices = cheapest(table)
        counts, lines = best(table)[1:]
        self.assertEqual(faults(table, plan), [])
        self.assertEqual(home_counts(table, plan), counts)
        for turn, line in enumerate(lines):
            self.look_at_line(table, turn, line, counts[turn])
            self.assertEqual(by_homes(table, turn, 2 ** len(table.homes()) - 1)[1], counts[turn])
        self.assertTrue(prices_by_hand(table, plan, prices))
        journeys = journeys_of(table, plan)
        self.assertEqual(len(journeys), counts[-1])
        self.assertEqual(joined(table, journeys), plan)
        word, number = all_home(table)[:2]
        self.assertEqual((word, number), ("home", counts.index(table.people())) if table.people() in counts
                         else ("never", table.people() - counts[-1]))
        return plan, counts

    def look_at_ranks(self, table, turn, counts):
        order = persons_by_hand(table)[::-1]
        chosen, plan, left = ranked(table, turn, order)
        self.assertEqual(len(chosen), counts[turn])
        self.assertEqual(sum(set_out_by_hand(plan).values()), counts[turn])
        for person, line in left:
            ahead = [other for other in chosen if order.index(other) < order.index(person) and other[0] in line[0]]
            self.assertEqual(rooms_by_hand(table, line), len(ahead))

    def look_at_seats(self, table, turn, counts):
        for ride, more, less in worth(table, turn):
            seats = table.ride_row(ride)[5]
            if seats < 1000:
                self.assertEqual(best_by(table.with_seats(ride, seats + 1), turn)[1], counts[turn] + more)
            if seats > 0:
                self.assertEqual(best_by(table.with_seats(ride, seats - 1), turn)[1], counts[turn] - less)

    def look_at_table(self, table):
        plan, counts = self.look_at_plans(table)
        for turn in range(table.turns + 1):
            self.look_at_ranks(table, turn, counts)
            self.look_at_seats(table, turn, counts)
            home, rest = rest_of(table, plan, turn)
            self.assertEqual(home + rest.people(), table.people())
        return counts

    def test_from_a_text_to_a_day_of_changes(self):
        for text in texts():
            table = read_table(text)
            self.assertEqual(show_table(table), text)
            counts = self.look_at_table(table)
            day = Day(table)
            desk = Desk(text)
            for turn in range(table.turns + 1):
                day.go(turn)
                self.assertEqual(desk.say(f"go {turn}"), "ok")
                leaving = [row[0] for row in day.table_now().rides if row[2] == turn]
                if leaving:
                    before = day.counts()
                    day.strike(leaving[0])
                    self.assertEqual(desk.say(f"strike {leaving[0]}"), "ok")
                    self.assertEqual(day.counts()[:turn], before[:turn])
                    self.assertTrue(all(now <= then for now, then in zip(day.counts(), before)))
                    self.look_at_table(day.table_now())
                self.assertEqual(day.home_now() + sum(row[2] for row in day.standing()), table.people())
                self.assertEqual(desk.say("counts"), " ".join(map(str, day.counts())))
            self.assertTrue(all(now <= then for now, then in zip(day.counts(), counts)))

    def test_a_ride_put_in_and_struck_out_again_on_a_day(self):
        for table in chance_tables(20):
            for turn in range(table.turns):
                day = Day(table)
                day.go(turn)
                counts = day.counts()
                day.put_in(("new", [name for name, room in table.places if room is not None][0], turn, "h", table.turns, 2))
                more = day.counts()
                self.assertTrue(all(then <= now for then, now in zip(counts, more)))
                day.strike("new")
                self.assertEqual(day.counts(), counts)

    def test_names_and_orders_change_no_number(self):
        for seed, table in enumerate(chance_tables(25) + [read_table(TEXT), full_table()]):
            other = renamed(table, seed)
            plan = cheapest(table)[0]
            again = cheapest(other)[0]
            self.assertEqual(home_counts(other, again), home_counts(table, plan))
            self.assertEqual(turns_of(other, again), turns_of(table, plan))
            self.assertEqual(all_home(other)[:2], all_home(table)[:2])
            told = {ride: (more, less) for ride, more, less in worth(other, table.turns)}
            for at, (ride, more, less) in enumerate(worth(table, table.turns)):
                self.assertEqual(told[f"x{at}"], (more, less))


def with_truths(thing):
    """The thing with one 0 or 1 in it, however deep, as the truth that Python takes for it."""
    if isinstance(thing, int) and not isinstance(thing, bool) and thing in (0, 1):
        yield bool(thing)
    elif isinstance(thing, (list, tuple)):
        for at, part in enumerate(thing):
            for other in with_truths(part):
                yield thing.__class__([*thing[:at], other, *thing[at + 1:]])
    elif isinstance(thing, dict):
        for key in thing:
            for other in with_truths(key):
                yield {other if one == key else one: value for one, value in thing.items()}
            for other in with_truths(thing[key]):
                yield {**thing, key: other}


class TruthsTest(unittest.TestCase):
    def looks(self, table, turn, ride):
        """(what holds, what makes it no more so) for each function that is asked of any things."""
        plan, counts, lines = best(table)
        least, prices = cheapest(table)
        journeys = journeys_of(table, plan)
        order = persons_by_hand(table)[::-1]
        return [
            (lambda thing: is_plan(table, thing), plan),
            (lambda thing: is_line(table, turn, thing, counts[turn]), lines[turn]),
            (lambda thing: is_line(table, turn, lines[turn], thing), counts[turn]),
            (lambda thing: is_best(table, thing, lines), plan),
            (lambda thing: is_best(table, plan, thing), lines),
            (lambda thing: prices_hold(table, thing, prices), least),
            (lambda thing: prices_hold(table, least, thing), prices),
            (lambda thing: journeys_fit(table, plan, thing), journeys),
            (lambda thing: all_home_holds(table, thing), all_home(table)),
            (lambda thing: ranks_hold(table, turn, thing, ranked(table, turn, order)), order),
            (lambda thing: ranks_hold(table, turn, order, thing), ranked(table, turn, order)),
            (lambda thing: more_holds(table, ride, turn, thing), seat_more(table, ride, turn)),
            (lambda thing: less_holds(table, ride, turn, thing), seat_less(table, ride, turn)),
        ]

    def test_truths_within_things(self):
        many = 0
        for table in [small_table()] + [chance_table(seed, people=4, turns=4) for seed in range(8)]:
            rides = [row[0] for row in table.rides if 0 < row[5] < 1000]
            for turn in (1, table.turns):
                for look, thing in self.looks(table, turn, rides[0]) if rides else []:
                    self.assertIs(look(thing), True)
                    for other in with_truths(thing):
                        self.assertIs(look(other), False, other)
                        many += 1
        self.assertGreater(many, 1000)

    def test_truths_within_rows(self):
        table = read_table(TEXT)
        parts = table.told()
        for other in with_truths(parts):
            refusal(self, BadTable, Table, *other)

    def test_truths_that_are_refused(self):
        table = small_table()
        for truth in (True, False):
            for error, deed in (
                    (NoTurn, lambda: best_by(table, truth)), (NoTurn, lambda: lets(table, truth, ([], []))),
                    (NoTurn, lambda: by_homes(table, truth, 0)), (NoHomes, lambda: by_homes(table, 0, truth)),
                    (NoTurn, lambda: ranked(table, truth, [])), (NoOrder, lambda: ranked(table, 0, [("ann.1", truth)])),
                    (NoTurn, lambda: seat_more(table, "bus", truth)), (NoTurn, lambda: seat_less(table, "bus", truth)),
                    (NoTurn, lambda: worth(table, truth)), (NoTurn, lambda: rest_of(table, {}, truth)),
                    (NoTurn, lambda: Day(table).go(truth)), (BadTable, lambda: Day(table).seats_of("bus", truth)),
                    (NoTurn, lambda: Day(table).later("bus", truth)), (NoRow, lambda: Desk(TEXT).say(truth)),
                    (NoStep, lambda: step_of(table, ("wait", "quay", truth))),
                    (NoSpot, lambda: Web(table).leading_out(("quay", truth))),
                    (NoSpot, lambda: Sending(table).more([], [("home", truth)])),
                    (NoPlan, lambda: home_at(table, {("out", "quay", 4): truth})),
                    (BadTable, lambda: Day(table).put_in(("n", "quay", truth, "home", 4, 1))),
                    (NoJourney, lambda: joined(table, [("ann.1", truth, [])])),
                    (BadTable, lambda: Table(truth, [], [], [], []))):
                refusal(self, error, deed)


class RefusalsTest(unittest.TestCase):
    def test_each_refusal_with_its_values(self):
        table = small_table()
        day = Day(table)
        day.go(1)
        desk = Desk(show_table(table))
        thing = [{"a": [1]}]
        for error, values, deed, things in (
                (BadTable, {"part": "rides", "at": None, "why": "form"}, Table, (1, [], None, [], [])),
                (BadLine, {"row": 0, "why": "form"}, read_table, (thing,)), (NoPlace, {"name": thing}, table.room_of, (thing,)),
                (NoRide, {"name": thing}, table.ride_row, (thing,)), (NoWay, {"name": thing}, table.way_row, (thing,)),
                (NoGroup, {"name": thing}, table.group_row, (thing,)), (NoHomes, {"found": thing}, table.with_homes, (thing,)),
                (NoTurn, {"found": thing}, table.with_later, ("bus", thing)), (NoStep, {"found": thing}, step_of, (table, thing)),
                (NoSpot, {"found": thing}, Web(table).leading_in, (thing,)), (NoPlan, {"found": thing}, faults, (table, thing)),
                (NoPlan, {"found": thing}, Sending, (table, thing)), (NoGroup, {"name": thing}, Sending(table).more, ([thing], [])),
                (NoSpot, {"found": thing}, Sending(table).more, ([], [thing])), (NoTurn, {"found": thing}, lets, (table, thing, None)),
                (NoTurn, {"found": thing}, best_by, (table, thing)), (NoPlan, {"found": thing}, made_less, (table, thing)),
                (NoPlan, {"found": thing}, journeys_of, (table, thing)), (NoJourney, {"at": 0}, joined, (table, thing)),
                (NoTurn, {"found": thing}, by_homes, (table, thing, thing)), (NoHomes, {"found": thing}, by_homes, (table, 0, thing)),
                (NoTurn, {"found": thing}, ranked, (table, thing, thing)), (NoOrder, {"at": 0}, ranked, (table, 0, thing)),
                (NoRide, {"name": thing}, seat_more, (table, thing, thing)), (NoTurn, {"found": thing}, seat_less, (table, "bus", thing)),
                (NoSeat, {"name": "late"}, seat_less, (table, "late", 0)), (NoTurn, {"found": thing}, worth, (table, thing)),
                (NoPlan, {"found": thing}, rest_of, (table, thing, thing)), (NoTurn, {"found": thing}, rest_of, (table, {}, thing)),
                (NoTurn, {"found": thing}, day.go, (thing,)), (NoRide, {"name": thing}, day.strike, (thing,)),
                (Gone, {"name": "bus"}, day.strike, ("bus",)), (BadTable, {"part": "rides", "at": 3, "why": "form"}, day.put_in, (thing,)),
                (NoRow, {"found": thing}, desk.say, (thing,)), (NoRow, {"found": "go"}, desk.say, ("go",))):
            kept = copy.deepcopy(things[-1])
            self.assertEqual(vars(refusal(self, error, deed, *things)), values)
            self.assertEqual(error.__bases__, (QuayError,))
            self.assertEqual(things[-1], kept)


class KeepingTest(unittest.TestCase):
    def test_no_question_changes_a_table(self):
        table = read_table(TEXT)
        before = copy.deepcopy(table.told())
        for ask in (best, cheapest, all_home, steps_of, Day, show_table, lambda of: worth(of, 8), lambda of: ranked(of, 8, []),
                    lambda of: seat_more(of, "bus", 8), lambda of: seat_less(of, "bus", 8), lambda of: best_by(of, 8),
                    lambda of: by_homes(of, 8, 1), lambda of: rooms_across(of, ([], [])), lambda of: Sending(of).more(["g"], [])):
            ask(table)
            self.assertEqual(table.told(), before)

    def test_other_things_made_alike_are_answered_alike(self):
        for text in texts():
            one = read_table(text)
            two = read_table(text)
            for ask in (best, cheapest, all_home, lambda of: worth(of, of.turns), lambda of: ranked(of, 1, []),
                        lambda of: journeys_of(of, cheapest(of)[0]), lambda of: Day(of).lines()):
                self.assertEqual(ask(one), ask(two))

    def test_what_is_handed_in_is_kept_as_a_copy(self):
        rows = [[("a", 1), ("h", None)], [("r", "a", 0, "h", 1, 1)], [], [("g", "a", 0, 2)]]
        table = Table(2, *rows)
        before = table.told()
        plan = {("out", "g", 0): 1, ("ride", "r"): 1}
        sending = Sending(table, plan)
        for part in rows:
            part.clear()
        plan.clear()
        self.assertEqual(table.told(), before)
        self.assertEqual(sending.sent(), {("out", "g", 0): 1, ("ride", "r"): 1})


if __name__ == "__main__":
    unittest.main()
