"""A day of changes [2], [3], [4], [5], [6], [103], [104], [105], [106]."""

import copy
import random
import unittest

from homequay.best import best, is_best
from homequay.cheapest import cheapest
from homequay.days import Day
from homequay.errors import BadTable, Gone, NoRide, NoTurn, QuayError
from homequay.journeys import journeys_of
from homequay.tables import Table
from homequay.walking import home_counts, turns_of
from tests.things import (any_things, bare_tables, begin_by_hand, chance_table, chance_tables, full_table, in_order,
                          least_turns_by_hand, lets_by_hand, moves_by_hand, refusal, rest_by_hand, small_table, sums)


def coast_table():
    """A bus and a boat in a row, a late ride, and a long way on foot."""
    return Table(8, [("a", 4), ("b", 2), ("h", None)],
                 [("bus", "a", 1, "b", 2, 3), ("boat", "b", 3, "h", 4, 2), ("late", "b", 5, "h", 7, 2),
                  ("car", "a", 4, "h", 6, 1)],
                 [("path", "a", "h", 5, 1)], [("g", "a", 0, 5), ("f", "b", 2, 1), ("e", "h", 3, 1)])


def told_of(day):
    return {
        "now": day.now(), "since": day.since(), "then": day.home_then(), "home": day.home_now(),
        "table": day.table_now().told(), "plan": day.plan_now(), "lines": day.lines(), "standing": day.standing(),
        "counts": day.counts(), "walked": day.walked(),
    }


class DayCase(unittest.TestCase):
    def look_at(self, day, people):
        """What holds of a day at all times."""
        table = day.table_now()
        plan = day.plan_now()
        counts = home_counts(table, plan)
        lines = day.lines()
        self.assertEqual(len(lines), table.turns + 1)
        for turn, line in enumerate(lines):
            self.assertTrue(in_order(table, line))
            self.assertEqual(lets_by_hand(table, turn, line), counts[turn])
        self.assertTrue(is_best(table, plan, lines))
        self.assertEqual(turns_of(table, plan), turns_of(table, cheapest(table)[0]))
        home, groups = rest_by_hand(table, journeys_of(table, plan), day.now())
        self.assertEqual(day.home_now(), day.home_then() + home)
        self.assertEqual(day.standing(), [row[1:] for row in groups])
        self.assertEqual(day.home_now() + sum(many for place, turn, many in day.standing()), people)
        since = day.since()
        self.assertEqual(day.counts()[since:], [day.home_then() + many for many in counts[since:]])
        self.assertEqual(len(day.counts()), table.turns + 1)
        self.assertEqual(day.counts(), sorted(day.counts()))
        for number in [day.now(), since, day.home_then(), day.home_now()] + day.counts() + list(day.walked().values()):
            self.assertIs(number.__class__, int)

    def look_at_change(self, day, rides, deed):
        """Does the deed, of which the day's rides are told as they are then, and looks at all that comes of it."""
        before = told_of(day)
        table = day.table_now()
        home, groups = rest_by_hand(table, journeys_of(table, before["plan"]), day.now())
        self.assertIsNone(deed())
        later = tuple(row for row in rides if row[2] >= day.now())
        self.assertEqual(day.table_now().told(), (table.turns, table.places, later, table.ways, tuple(groups)))
        self.assertEqual((day.now(), day.since()), (before["now"], before["now"]))
        self.assertEqual((day.home_then(), day.home_now()), (before["home"], before["home"]))
        self.assertEqual(day.counts()[:day.now()], before["counts"][:day.now()])
        self.assertEqual((day.walked(), day.standing()), (before["walked"], before["standing"]))
        self.look_at(day, home + before["then"] + sum(row[3] for row in groups))


class NewDayTest(DayCase):
    def test_a_new_day(self):
        for table in [coast_table(), small_table()] + bare_tables() + chance_tables(30):
            day = Day(table)
            self.assertEqual((day.now(), day.since(), day.home_then(), day.home_now()), (0, 0, 0, 0))
            self.assertEqual(day.table_now().told(), table.told())
            self.assertEqual(day.counts(), best(table)[1])
            self.assertEqual(day.walked(), {})
            self.look_at(day, table.people())

    def test_it_goes_on(self):
        day = Day(coast_table())
        for turn in (0, 1, 1, 4, 8, 8):
            self.assertIsNone(day.go(turn))
            self.assertEqual((day.now(), day.since(), day.home_then()), (turn, 0, 0))
            self.assertEqual(day.table_now().told(), coast_table().told())
            self.look_at(day, 7)
        self.assertEqual(day.home_now(), 7)
        self.assertEqual(day.standing(), [])

    def test_turns_that_are_none(self):
        for now in (0, 3, 8):
            day = Day(coast_table())
            day.go(now)
            before = told_of(day)
            for thing in any_things() + [now - 1, 9, 10, True, False, "3", [3], (3,), -1, None]:
                if isinstance(thing, bool) or not isinstance(thing, int) or not now <= thing <= 8:
                    found = refusal(self, NoTurn, day.go, thing).found
                    self.assertEqual(found, thing)
                    self.assertIs(found.__class__, thing.__class__)
            self.assertEqual(told_of(day), before)

    def test_by_hand(self):
        day = Day(coast_table())
        self.assertEqual(day.counts(), [0, 0, 0, 1, 3, 4, 6, 7, 7])
        self.assertEqual(day.home_now(), 0)
        day.go(4)
        self.assertEqual(day.home_now(), 3)
        # Who has come with the bus and not gone on by boat waits at b; two walk and are home later.
        self.assertEqual([row for row in day.standing() if row[0] == "b"], [("b", 4, 1)])


# Rides that are put in, struck out and changed, as deeds: a name of the day's method, and its arguments.
def deeds_of(table, now):
    """(arguments, the day's rides behind it) of deeds that are not refused, from each kind of them."""
    rides = list(table.rides)
    deeds = []
    for at, row in enumerate(rides):
        if row[2] >= now:
            deeds.append(("strike", (row[0],), rides[:at] + rides[at + 1:]))
            for seats in (0, row[5], row[5] + 1, 1000):
                deeds.append(("seats_of", (row[0], seats), rides[:at] + [row[:5] + (seats,)] + rides[at + 1:]))
            for by in range(1, table.turns - row[4] + 1):
                moved = row[:2] + (row[2] + by, row[3], row[4] + by, row[5])
                deeds.append(("later", (row[0], by), rides[:at] + [moved] + rides[at + 1:]))
    starts = [name for name, room in table.places if room is not None]
    for leave in range(now, table.turns):
        for goal, room in table.places:
            if starts and goal != starts[0]:
                row = ("new", starts[0], leave, goal, table.turns, 1)
                deeds.append(("put_in", (row,), rides + [row]))
    return deeds


def do(day, deed):
    methods = {"strike": day.strike, "seats_of": day.seats_of, "later": day.later, "put_in": day.put_in}
    return methods[deed[0]](*deed[1])


class ChangeTest(DayCase):
    def test_each_change_at_each_turn(self):
        done = []
        for table in [coast_table(), small_table()] + chance_tables(12):
            for now in range(table.turns + 1):
                deeds = deeds_of(table, now)
                self.assertEqual(deeds == [], now == table.turns)
                for deed in deeds[::1 if table.turns == 8 else 5]:
                    day = Day(table)
                    day.go(now)
                    self.look_at_change(day, deed[2], lambda: do(day, deed))
                    done.append(deed[0])
        self.assertGreater(min(done.count(name) for name in ("strike", "seats_of", "later", "put_in")), 30)

    def test_against_all_plans_that_begin_so(self):
        for seed in range(60):
            table = chance_table(seed, people=4, turns=4)
            chance = random.Random(seed)
            now = chance.randint(0, table.turns - 1)
            deeds = deeds_of(table, now)
            day = Day(table)
            day.go(now)
            do(day, chance.choice(deeds))
            least = least_turns_by_hand(day.table_now())
            most = [max(by) for by in zip(*[sums(comers) for comers in least])]
            self.assertEqual(day.counts()[now:], [day.home_then() + many for many in most[now:]])
            comers = [many - ahead for ahead, many in zip([0] + most, most)]
            self.assertEqual(turns_of(day.table_now(), day.plan_now()), least[tuple(comers)])

    def test_several_changes(self):
        for seed, table in enumerate(chance_tables(40, people=9, turns=9) + [coast_table()]):
            chance = random.Random(seed)
            day = Day(table)
            rides = list(table.rides)
            walked = {}
            for change in range(5):
                now = chance.randint(day.now(), table.turns)
                for key, many in day.plan_now().items():
                    if key[0] != "out" and day.now() <= begin_by_hand(day.table_now(), key) < now:
                        self.assertNotIn(key, walked)
                        walked[key] = many
                day.go(now)
                self.assertEqual(day.walked(), walked)
                self.look_at(day, table.people())
                own = Table(table.turns, table.places, rides, table.ways, [])
                deeds = [deed for deed in deeds_of(own, now) if deed[0] != "put_in" or not own.is_ride("new")]
                if deeds:
                    deed = chance.choice(deeds)
                    rides = deed[2]
                    self.look_at_change(day, rides, lambda: do(day, deed))
            day.go(table.turns)
            self.look_at(day, table.people())

    def test_what_was_walked_keeps_to_the_rooms(self):
        for seed, table in enumerate(chance_tables(30, people=9, turns=9)):
            day = Day(table)
            for now in range(table.turns):
                day.go(now)
                later = [row for row in table.rides if row[2] >= now]
                if later and now % 2:
                    day.seats_of(later[0][0], later[0][5])
            day.go(table.turns)
            rooms = {key: room for key, tail, head, room, price in moves_by_hand(table)}
            for key, many in day.walked().items():
                self.assertLessEqual(many, rooms[key])

    def test_a_change_by_which_all_is_as_before(self):
        day = Day(coast_table())
        day.go(3)
        rides = list(coast_table().rides)
        self.look_at_change(day, rides, lambda: day.seats_of("boat", 2))
        self.assertEqual((day.since(), day.home_then()), (3, 0))
        self.assertEqual([row[0] for row in day.table_now().rides], ["boat", "late", "car"])
        self.assertEqual(day.counts(), Day(coast_table()).counts())

    def test_a_ride_is_put_in_again_under_the_name_of_one_struck_out(self):
        day = Day(coast_table())
        rides = list(coast_table().rides)
        day.go(3)
        day.strike("boat")
        self.assertEqual(refusal(self, NoRide, day.strike, "boat").name, "boat")
        row = ("boat", "b", 4, "h", 6, 1)
        self.look_at_change(day, [rides[0]] + rides[2:] + [row], lambda: day.put_in(row))
        self.assertEqual([row[0] for row in day.table_now().rides], ["late", "car", "boat"])
        day.seats_of("boat", 2)
        self.assertEqual(day.table_now().ride_row("boat"), row[:5] + (2,))

    def test_a_ride_that_leaves_just_now_is_not_gone(self):
        for deed in (lambda day: day.strike("boat"), lambda day: day.seats_of("boat", 9), lambda day: day.later("boat", 1),
                     lambda day: day.put_in(("new", "b", 3, "h", 4, 1))):
            day = Day(coast_table())
            day.go(3)
            self.assertIsNone(deed(day))
            self.assertEqual(day.since(), 3)

    def test_a_ride_that_leaves_later_can_still_be_struck_out(self):
        day = Day(coast_table())
        day.go(3)
        day.later("boat", 2)
        day.go(5)
        day.strike("boat")
        self.assertEqual([row[0] for row in day.table_now().rides], ["late"])
        day = Day(coast_table())
        day.later("boat", 4)
        self.assertEqual(day.table_now().ride_row("boat"), ("boat", "b", 7, "h", 8, 2))
        self.assertEqual(refusal(self, NoTurn, day.later, "boat", 1).found, 1)

    def test_more_seats_help_and_fewer_cost(self):
        for table in chance_tables(30):
            for now in range(table.turns):
                for row in table.rides:
                    if row[2] >= now and row[5] > 0:
                        counts = []
                        for seats in (0, row[5], row[5] + 1):
                            day = Day(table)
                            day.go(now)
                            day.seats_of(row[0], seats)
                            counts.append(day.counts())
                        for one, two in zip(counts, counts[1:]):
                            self.assertTrue(all(less <= more for less, more in zip(one, two)))


class RefusedTest(unittest.TestCase):
    def setUp(self):
        self.day = Day(coast_table())
        self.day.go(2)
        self.day.strike("car")
        self.before = told_of(self.day)

    def tearDown(self):
        self.assertEqual(told_of(self.day), self.before)
        # The day's rides are as they were, too: those that have left and those that have not.
        self.assertEqual(refusal(self, Gone, self.day.strike, "bus").name, "bus")
        self.assertEqual(refusal(self, NoRide, self.day.strike, "car").name, "car")
        found = refusal(self, BadTable, self.day.seats_of, "late", -1)
        self.assertEqual((found.part, found.at, found.why), ("rides", 2, "number"))

    def test_no_ride_goes_first(self):
        for thing in any_things() + ["car", "Bus", "h", ("ride", "bus"), ["bus"]]:
            found = [refusal(self, NoRide, self.day.strike, thing).name]
            for other in (1, 0, 2000, True, None, "x", thing):
                found.append(refusal(self, NoRide, self.day.seats_of, thing, other).name)
                found.append(refusal(self, NoRide, self.day.later, thing, other).name)
            for name in found:
                self.assertEqual(name, thing)
                self.assertIs(name.__class__, thing.__class__)

    def test_gone_goes_next(self):
        self.assertEqual(refusal(self, Gone, self.day.strike, "bus").name, "bus")
        for other in (1, 0, 2000, True, None, "x", [1]):
            self.assertEqual(refusal(self, Gone, self.day.seats_of, "bus", other).name, "bus")
            self.assertEqual(refusal(self, Gone, self.day.later, "bus", other).name, "bus")

    def test_seats_that_are_none(self):
        for ride, at in (("boat", 1), ("late", 2)):
            for thing in any_things() + [1001, -1, True, False, "2"]:
                if isinstance(thing, bool) or not isinstance(thing, int) or not 0 <= thing <= 1000:
                    found = refusal(self, BadTable, self.day.seats_of, ride, thing)
                    self.assertEqual((found.part, found.at, found.why), ("rides", at, "number"))

    def test_turns_by_which_a_ride_is_not_later(self):
        for ride, most in (("boat", 4), ("late", 1)):
            for thing in any_things() + [most + 1, 0, -1, True, False, "1"]:
                if isinstance(thing, bool) or not isinstance(thing, int) or not 1 <= thing <= most:
                    found = refusal(self, NoTurn, self.day.later, ride, thing).found
                    self.assertEqual(found, thing)
                    self.assertIs(found.__class__, thing.__class__)

    def bad(self, row):
        found = refusal(self, BadTable, self.day.put_in, row)
        self.assertEqual((found.part, found.at), ("rides", 3))
        return found.why

    def test_rows_that_are_no_rides(self):
        for thing in any_things() + [["n", "a", 3, "h", 4, 1], ("n", "a", 3, "h", 4), ("n", "a", 3, "h", 4, 1, 1)]:
            self.assertEqual(self.bad(thing), "form")
        for why, row in (("name", ("N", "a", 3, "h", 4, 1)), ("name", (None, "a", 3, "h", 4, 1)),
                         ("name", ("n.1", "a", 3, "h", 4, 1)), ("double", ("boat", "a", 3, "h", 4, 1)),
                         ("double", ("bus", "a", 3, "h", 4, 1)), ("place", ("n", "z", 3, "h", 4, 1)),
                         ("place", ("n", "a", 3, "z", 4, 1)), ("home", ("n", "h", 3, "a", 4, 1)),
                         ("alike", ("n", "a", 3, "a", 4, 1)), ("turn", ("n", "a", 8, "h", 8, 1)),
                         ("turn", ("n", "a", 3, "h", 3, 1)), ("turn", ("n", "a", 3, "h", 9, 1)),
                         ("turn", ("n", "a", True, "h", 4, 1)), ("turn", ("n", "a", -1, "h", 4, 1)),
                         ("number", ("n", "a", 3, "h", 4, 1001)), ("number", ("n", "a", 3, "h", 4, True))):
            self.assertEqual(self.bad(row), why)

    def test_bad_rows_ahead_of_gone(self):
        self.assertEqual(refusal(self, Gone, self.day.put_in, ("n", "a", 1, "h", 4, 1)).name, "n")
        self.assertEqual(refusal(self, Gone, self.day.put_in, ("car", "a", 0, "h", 8, 1)).name, "car")
        self.assertEqual(self.bad(("n", "a", 1, "h", 4, -1)), "number")
        self.assertEqual(self.bad(("bus", "a", 1, "h", 4, 1)), "double")
        self.assertEqual(self.bad(("n", "a", 1, "h", 1, 1)), "turn")

    def test_the_last_turn(self):
        day = Day(coast_table())
        day.go(8)
        before = told_of(day)
        for name in ("bus", "boat", "late", "car"):
            self.assertEqual(refusal(self, Gone, day.strike, name).name, name)
            self.assertEqual(refusal(self, Gone, day.seats_of, name, 1).name, name)
            self.assertEqual(refusal(self, Gone, day.later, name, 1).name, name)
        for leave in range(8):
            self.assertEqual(refusal(self, Gone, day.put_in, ("n", "a", leave, "h", 8, 1)).name, "n")
        self.assertEqual(refusal(self, NoRide, day.strike, "n").name, "n")
        self.assertEqual(refusal(self, BadTable, day.put_in, ("n", "a", 8, "h", 9, 1)).why, "turn")
        self.assertEqual(told_of(day), before)


class EightyRidesTest(unittest.TestCase):
    def test_eighty_rides_and_one_more(self):
        rides = [(f"r{at}", "a", at % 3, "h", 4, 1) for at in range(79)]
        day = Day(Table(4, [("a", 0), ("h", None)], rides, [], [("g", "a", 0, 3)]))
        day.go(1)
        day.put_in(("n", "a", 2, "h", 3, 1))
        self.assertEqual(len(day.table_now().rides), 53)
        # Those that have left are rides of the day, too.
        found = refusal(self, BadTable, day.put_in, ("m", "a", 2, "h", 3, 1))
        self.assertEqual((found.part, found.at, found.why), ("rides", 80, "many"))
        found = refusal(self, BadTable, day.put_in, None)
        self.assertEqual((found.part, found.at, found.why), ("rides", 80, "many"))
        found = refusal(self, BadTable, day.seats_of, "n", 1001)
        self.assertEqual((found.part, found.at, found.why), ("rides", 79, "number"))
        day.strike("r1")
        day.put_in(("m", "a", 2, "h", 3, 1))
        self.assertEqual(refusal(self, BadTable, day.put_in, ("k", "a", 2, "h", 3, 1)).at, 80)


class KeepingTest(DayCase):
    def test_what_is_told_and_changed_is_told_again(self):
        day = Day(coast_table())
        day.go(3)
        for change in (lambda: None, lambda: day.strike("late"), lambda: day.go(5)):
            change()
            before = copy.deepcopy(told_of(day))
            told = told_of(day)
            told["plan"].clear()
            told["walked"].clear()
            told["counts"].clear()
            told["standing"].clear()
            told["lines"][0][0].append("x")
            told["lines"][1][1].clear()
            told["lines"].pop()
            self.assertEqual(told_of(day), before)

    def test_two_days_of_one_table(self):
        table = coast_table()
        one = Day(table)
        two = Day(table)
        before = told_of(two)
        self.assertEqual(told_of(one), before)
        one.go(3)
        one.strike("boat")
        one.go(6)
        self.assertEqual(told_of(two), before)
        two.go(3)
        two.strike("boat")
        two.go(6)
        self.assertEqual(told_of(two), told_of(one))
        self.assertEqual(table.told(), coast_table().told())

    def test_asking_changes_nothing(self):
        asked = Day(coast_table())
        silent = Day(coast_table())
        for turn in range(9):
            asked.go(turn)
            told_of(asked)
            if turn in (2, 4):
                asked.seats_of("late", turn)
                silent.go(turn)
                silent.seats_of("late", turn)
        silent.go(8)
        self.assertEqual(told_of(asked), told_of(silent))

    def test_counts_ahead_of_a_change_stay(self):
        day = Day(coast_table())
        counts = day.counts()
        day.go(5)
        day.strike("late")
        self.assertEqual(day.counts()[:5], counts[:5])
        day.go(7)
        again = day.counts()
        day.put_in(("new", "b", 7, "h", 8, 3))
        self.assertEqual(day.counts()[:7], again[:7])
        self.assertEqual(day.counts()[8], 7)

    def test_who_comes_home_amid_a_change(self):
        table = Table(5, [("a", 0), ("h", None)], [("r", "a", 0, "h", 3, 1), ("s", "a", 4, "h", 5, 1)], [], [("g", "a", 0, 1)])
        day = Day(table)
        day.go(1)
        day.strike("s")
        self.assertEqual((day.home_now(), day.standing()), (0, [("h", 3, 1)]))
        self.assertEqual(day.counts(), [0, 0, 0, 1, 1, 1])
        day.go(3)
        self.assertEqual((day.home_now(), day.standing()), (0, [("h", 3, 1)]))
        day.go(4)
        self.assertEqual((day.home_now(), day.standing()), (1, []))
        self.assertEqual(day.walked(), {("ride", "r"): 1})
        day = Day(table)
        day.go(3)
        self.assertEqual((day.home_now(), day.standing()), (1, []))

    def test_a_table_at_its_bounds(self):
        table = full_table()
        day = Day(table)
        counts = day.counts()
        day.go(10)
        gone = 0
        for at, row in enumerate(table.rides):
            try:
                if at % 20 == 3:
                    day.strike(row[0])
                if at % 20 == 7:
                    day.seats_of(row[0], 50)
                if at % 20 == 11:
                    day.later(row[0], 1)
            except QuayError:
                gone += 1
        self.assertLess(gone, 10)
        day.go(20)
        day.put_in(("extra", "p3", 30, "north", 31, 1000))
        day.go(33)
        self.assertEqual(day.counts()[:11], counts[:11])
        self.look_at(day, 300)
        day.go(50)
        self.assertEqual(day.home_now() + sum(row[2] for row in day.standing()), 300)


if __name__ == "__main__":
    unittest.main()
