"""A desk that is told rows and answers them [2], [3], [4], [5], [111], [112], [113], [114], [115], [116]."""

import unittest

from homequay.allhome import all_home
from homequay.best import best_by
from homequay.days import Day
from homequay.desk import Desk
from homequay.errors import BadLine, BadTable, Gone, NoGroup, NoOrder, NoRide, NoRow, NoSeat, NoTurn, QuayError
from homequay.journeys import journeys_of
from homequay.ranks import ranked
from homequay.seats import seat_less, seat_more
from homequay.steps import steps_of
from homequay.tabletext import read_table, show_table
from homequay.walking import turns_of
from tests.things import any_things, bare_tables, chance_tables, full_table, refusal

TEXT = """turns 8
place a 4
place b 2
home h
ride bus a 1 b 2 3
ride boat b 3 h 4 2
ride late b 5 h 7 2
ride car a 4 h 6 1
way path a h 5 1
group g a 0 5
group f.1 b 2 1
group e h 3 1
group d a 8 1"""

# Every number and paper of the day, and questions that are not refused.
ROWS = [
    "now", "since", "home", "counts", "turns", "standing", "table", "plan", "line 0", "line 3", "line 8", "by 0", "by 5",
    "by 8", "all", "ranks 0", "ranks 4", "ranks 8",
]


def answers(desk):
    return {row: desk.say(row) for row in ROWS}


# What is answered at first, reckoned by hand.
AT_FIRST = {
    "now": "0", "since": "0", "home": "0", "counts": "0 0 0 1 3 4 6 7 7", "standing": "a 0 5; b 2 1; h 3 1; a 8 1",
    "table": TEXT.replace("\n", "; "), "by 0": "0", "by 5": "4", "by 8": "7", "all": "never 1", "ranks 0": "nothing",
    "ranks 8": "g:0 g:1 g:2 g:3 g:4 f.1:0 e:0", "ranks 8 d:0 e:0": "e:0 g:0 g:1 g:2 g:3 g:4 f.1:0",
    "ranks 3 g:4 g:0": "e:0", "ranks 4 f.1:0 g:3": "f.1:0 g:3 e:0", "ranks 4 g:3 g:1": "g:3 g:1 e:0",
    "more boat 4": "1", "less boat 4": "1", "more late 8": "0", "less late 8": "0", "more car 5": "0", "less car 5": "0",
    "line 8": "d / a:8", "journey d 0": "stays", "journey d 9999": "stays", "journey e 0": "out e 3", "journey e 1": "stays",
}


class AnswersTest(unittest.TestCase):
    def test_at_first(self):
        desk = Desk(TEXT)
        for row, answer in AT_FIRST.items():
            self.assertEqual(desk.say(row), answer, row)

    def test_behind_deeds(self):
        desk = Desk(TEXT)
        for row, answer in (
                ("go 3", "ok"), ("now", "3"), ("since", "0"), ("home", "0"), ("strike boat", "ok"), ("since", "3"),
                ("go 4", "ok"), ("since", "3"), ("home", "1"), ("put fast b 4 h 5 1", "ok"), ("since", "4"),
                ("seats fast 0", "ok"), ("later late 1", "ok"), ("later car 2", "ok")):
            self.assertEqual(desk.say(row), answer, row)
        table = desk.say("table")
        self.assertIn("ride late b 6 h 8 2; ride car a 6 h 8 1; ride fast b 4 h 5 0; way path a h 5 1; group ", table)
        self.assertNotIn("ride boat", table)
        self.assertNotIn("ride bus", table)

    def test_standing_with_none_one_and_several_places(self):
        desk = Desk("turns 3\nplace a 0\nhome h\nway w a h 1 1\ngroup g a 0 2")
        told = []
        for turn in range(4):
            self.assertEqual(desk.say(f"go {turn}"), "ok")
            told.append(desk.say("standing"))
        self.assertEqual(told, ["a 0 2", "a 1 1", "nothing", "nothing"])

    def test_nothing(self):
        desk = Desk("turns 1")
        self.assertEqual([desk.say(row) for row in ("standing", "plan", "ranks 0", "ranks 1")], ["nothing"] * 4)
        self.assertEqual([desk.say(row) for row in ("counts", "turns", "table", "all", "by 1", "line 1", "home")],
                         ["0 0", "0", "turns 1", "home 0", "0", "- / -", "0"])

    def test_numbers_above_9999(self):
        desk = Desk("turns 50\nplace a 1000\nhome h\nride r a 1 h 50 300\nway w a h 50 300\ngroup g a 0 300")
        # On foot it is one turn more than by the ride.
        self.assertEqual(desk.say("turns"), str(300 * 49))
        self.assertEqual(desk.say("counts"), "0 " * 50 + "300")

    def test_a_plan_in_the_order_of_all_steps(self):
        desk = Desk("turns 4\nplace a 2\nplace b 1\nhome h\nride r b 3 h 4 2\nride q a 0 b 1 1\nway w a b 3 1\n"
                    "group g a 0 2\ngroup e h 2 1")
        self.assertEqual(desk.say("plan"),
                         "out g 0 2; out e 2 1; ride r 2; ride q 1; walk w 0 1; wait b 1 1; wait b 2 1")


class PaperTest(unittest.TestCase):
    def desk_and_day(self, table, deeds):
        """A desk, and a day to which the same was done."""
        desk = Desk(show_table(table))
        day = Day(read_table(show_table(table)))
        for row, deed in deeds:
            try:
                deed(day)
            except QuayError as refused:
                again = refusal(self, refused.__class__, desk.say, row)
                self.assertEqual(vars(again), vars(refused))
            else:
                self.assertEqual(desk.say(row), "ok")
            self.look_at(desk, day)
        return desk, day

    def look_at(self, desk, day):
        table = day.table_now()
        plan = day.plan_now()
        self.assertEqual(desk.say("now"), str(day.now()))
        self.assertEqual(desk.say("since"), str(day.since()))
        self.assertEqual(desk.say("home"), str(day.home_now()))
        self.assertEqual(desk.say("counts"), " ".join(map(str, day.counts())))
        self.assertEqual(desk.say("turns"), str(turns_of(table, plan)))
        self.assertEqual(desk.say("standing"), self.rows(day.standing()))
        self.assertEqual(desk.say("table"), show_table(table).replace("\n", "; "))
        steps = [step.key() for step in steps_of(table)]
        self.assertEqual(desk.say("plan"), self.rows([key + (plan[key],) for key in steps if key in plan]))
        for turn, line in enumerate(day.lines()):
            groups = " ".join(line[0]) or "-"
            spots = " ".join(f"{place}:{at}" for place, at in line[1]) or "-"
            self.assertEqual(desk.say(f"line {turn}"), groups + " / " + spots)
        journeys = {(group, number): keys for group, number, keys in journeys_of(table, plan)}
        for name, place, turn, many in table.groups:
            for number in range(many + 2):
                keys = journeys.get((name, number))
                self.assertEqual(desk.say(f"journey {name} {number}"), self.rows(keys) if keys else "stays")

    def rows(self, rows):
        return "; ".join(" ".join(map(str, row)) for row in rows) or "nothing"

    def deeds(self, table):
        deeds = []
        for at, row in enumerate(table.rides[:4]):
            deeds += [(f"go {at}", lambda day, at=at: day.go(at)),
                      (f"strike {row[0]}", lambda day, name=row[0]: day.strike(name)),
                      (f"put {row[0]} {row[1]} {row[2]} {row[3]} {row[4]} 3", lambda day, row=row: day.put_in(row[:5] + (3,))),
                      (f"seats {row[0]} {at}", lambda day, name=row[0], at=at: day.seats_of(name, at)),
                      (f"later {row[0]} {at}", lambda day, name=row[0], at=at: day.later(name, at))]
        return deeds

    def test_as_the_day_does_it(self):
        for table in chance_tables(25) + [read_table(TEXT)]:
            desk, day = self.desk_and_day(table, self.deeds(table))
            self.look_at(desk, day)

    def test_bare_tables(self):
        for table in bare_tables():
            if table.people() < 100:
                desk, day = self.desk_and_day(table, [])
                self.look_at(desk, day)

    def test_lines_without_groups_and_without_spots(self):
        desk = Desk("turns 2\nplace a 0\nhome h\nride r a 0 h 1 1\ngroup g a 0 1")
        self.assertEqual(desk.say("line 2"), "- / -")
        self.assertEqual(desk.say("line 0"), "g / a:0 a:1 h:1 a:2")
        desk = Desk("turns 2\nplace quay 0\nhome h\ngroup a quay 0 1\ngroup b quay 1 1")
        self.assertEqual(desk.say("line 1"), "a b / quay:0 quay:1 quay:2")

    def test_a_journey_of_several_steps(self):
        desk = Desk("turns 6\nplace a 1\nplace b 1\nhome h\nride r a 1 b 2 1\nway w b h 3 1\ngroup g a 0 1")
        self.assertEqual(desk.say("journey g 0"), "out g 1; ride r; walk w 2")
        self.assertEqual(desk.say("plan"), "out g 1 1; ride r 1; walk w 2 1")
        desk = Desk("turns 6\nplace a 1\nplace b 1\nhome h\nride r a 1 b 2 1\nride s b 3 h 6 1\ngroup g a 0 2")
        self.assertEqual(desk.say("journey g 0"), "out g 1; ride r; wait b 2; ride s")
        self.assertEqual(desk.say("journey g 1"), "stays")


class QuestionTest(unittest.TestCase):
    def look_at(self, desk, table):
        for turn in range(table.turns + 1):
            self.assertEqual(desk.say(f"by {turn}"), str(best_by(table, turn)[1]))
            for row in table.rides:
                for word, tell in (("more", seat_more), ("less", seat_less)):
                    asking = f"{word} {row[0]} {turn}"
                    try:
                        self.assertEqual(str(tell(table, row[0], turn)[0]), desk.say(asking))
                    except NoSeat as refused:
                        self.assertEqual(refusal(self, NoSeat, desk.say, asking).name, refused.name)
            persons = [(row[0], number) for row in table.groups for number in range(row[3])]
            for order in ([], persons[:1], persons[::-1], persons[1::2]):
                words = "".join(f" {group}:{number}" for group, number in order)
                chosen = [f"{group}:{number}" for group, number in ranked(table, turn, order)[0]]
                self.assertEqual(desk.say(f"ranks {turn}{words}"), " ".join(chosen) or "nothing")
        word, number = all_home(table)[:2]
        self.assertEqual(desk.say("all"), f"{word} {number}")

    def test_of_the_table_in_force(self):
        for table in chance_tables(8) + [read_table(TEXT)]:
            desk = Desk(show_table(table))
            day = Day(table)
            self.look_at(desk, table)
            for row in table.rides:
                if row[2] == 2:
                    for one in (day.go, lambda turn: desk.say(f"go {turn}")):
                        one(2)
                    day.strike(row[0])
                    desk.say(f"strike {row[0]}")
            self.look_at(desk, day.table_now())


# Rows that have no form.
NO_ROWS = [
    "", " ", "  ", "go", "go ", " go 1", "go 1 ", "go  1", "go 1 2", "go 01", "go 00", "go 12345", "go 00000", "go -1", "go +1",
    "go 1.0", "go x", "Go 1", "GO 1", "go\n1", "go 1\n", "\ngo 1", "go 1\ngo 2", "strike", "strike ", "strike Bus",
    "strike 1bus", "strike bus.1", "strike ninesigns", "strike bus boat", "strike b-s", "put n a 1 h 2", "put n a 1 h 2 3 4",
    "put n a h 1 2 3", "put N a 1 h 2 3", "put n A 1 h 2 3", "put n a 1 H 2 3", "put n a x h 2 3", "put n a 1 h x 3",
    "put n a 1 h 2 x", "put n a 1 h 2 -3", "put n a 1 h 2 03", "put n.1 a 1 h 2 3", "put n a 1  h 2 3", "put", "seats bus",
    "seats bus x", "seats 1 bus", "seats bus 1 1", "seats bus 10000", "seats", "later bus", "later bus -1", "later 1 bus",
    "later", "later bus 1 1", "now 1", "now ", " now", "Now", "no", "nows", "since 0", "since ", "home 1", "home h", "counts 1",
    "counts ", "turns 1", "turns 8", "standing a", "standing ", "table 1", "table ", "plan 1", "plan ", "line", "line ", "line x",
    "line 1 2", "line -1", "line 01", "journey", "journey g", "journey g ", "journey g x", "journey G 0", "journey g 0 0",
    "journey 0 g", "journey g:0", "journey thirteensigns 0", "journey .g 0", "by", "by x", "by 1 2", "by ", "all 1", "all ",
    "more", "more bus", "more bus x", "more 1 bus", "more bus 1 1", "less", "less bus", "less bus x", "less bus 1 1", "ranks",
    "ranks ", "ranks x", "ranks g:0", "ranks 1 ", "ranks 1  g:0", "ranks 1 g:0 ", "ranks 1 g", "ranks 1 g:", "ranks 1 :0",
    "ranks 1 :", "ranks 1 g:0:0", "ranks 1 g::0", "ranks 1 G:0", "ranks 1 g:x", "ranks 1 g:00", "ranks 1 g:01", "ranks 1 g:-1",
    "ranks 1 g:12345", "ranks 1 g;0", "ranks 1 g :0", "ranks 1 g: 0", "ranks 1 thirteensigns:0", "ranks 1 g:0 f", "ranks -1 g:0",
    "nothing", "ok", "go\t1", "put_in n a 1 h 2 3", "walked", "lines", "home_now", "strikes bus", "ride bus a 1 b 2 3",
]


class RefusedTest(unittest.TestCase):
    def test_rows_that_have_no_form(self):
        desk = Desk(TEXT)
        before = answers(desk)
        for row in NO_ROWS + any_things() + [["go", 1], ("go", "1"), {"go": 1}, 10 ** 29]:
            found = refusal(self, NoRow, desk.say, row).found
            self.assertEqual(found, row)
            self.assertIs(found.__class__, row.__class__)
        self.assertEqual(answers(desk), before)

    def test_texts_that_are_no_tables(self):
        for text, row, why in (("", 0, "form"), ("turns 0", 0, "number"), ("turns 51", 0, "number"), ("place a 1", 1, "turns"),
                               ("turns 2\nturns 2", 1, "turns"), ("turns 2\nplace a 1\nplace a 1", 2, "double"),
                               ("turns 2\n", 1, "form"), ("turns 2\nride r a 0 b 1 1", 1, "place"), (None, 0, "form"),
                               (["turns 2"], 0, "form"), (7, 0, "form"), ("turns 2\ngroup g a 0 1", 1, "place")):
            found = refusal(self, BadLine, Desk, text)
            self.assertEqual((found.row, found.why), (row, why))
        for thing in any_things():
            refusal(self, BadLine, Desk, thing)

    def test_what_is_refused_with_what(self):
        desk = Desk(TEXT)
        desk.say("go 2")
        desk.say("strike car")
        before = answers(desk)
        for row, error, values in (
                ("go 1", NoTurn, {"found": 1}), ("go 9", NoTurn, {"found": 9}), ("go 9999", NoTurn, {"found": 9999}),
                ("strike car", NoRide, {"name": "car"}), ("strike bus", Gone, {"name": "bus"}),
                ("strike h", NoRide, {"name": "h"}), ("seats car 2000", NoRide, {"name": "car"}),
                ("seats bus 2000", Gone, {"name": "bus"}),
                ("seats late 1001", BadTable, {"part": "rides", "at": 2, "why": "number"}),
                ("later car 1", NoRide, {"name": "car"}), ("later bus 0", Gone, {"name": "bus"}),
                ("later late 0", NoTurn, {"found": 0}), ("later late 2", NoTurn, {"found": 2}),
                ("put late a 3 h 4 1", BadTable, {"part": "rides", "at": 3, "why": "double"}),
                ("put bus a 1 h 4 1", BadTable, {"part": "rides", "at": 3, "why": "double"}),
                ("put n z 3 h 4 1", BadTable, {"part": "rides", "at": 3, "why": "place"}),
                ("put n a 3 h 3 1", BadTable, {"part": "rides", "at": 3, "why": "turn"}),
                ("put n a 1 h 3 1001", BadTable, {"part": "rides", "at": 3, "why": "number"}),
                ("put n a 1 h 3 1", Gone, {"name": "n"}),
                ("line 9", NoTurn, {"found": 9}), ("by 9", NoTurn, {"found": 9}), ("by 9999", NoTurn, {"found": 9999}),
                ("journey g 0", NoGroup, {"name": "g"}), ("journey nobody 0", NoGroup, {"name": "nobody"}),
                ("more car 9", NoRide, {"name": "car"}), ("more bus 2", NoRide, {"name": "bus"}),
                ("more boat 9", NoTurn, {"found": 9}), ("less car 9", NoRide, {"name": "car"}),
                ("less boat 9", NoTurn, {"found": 9}), ("ranks 9 nobody:0", NoTurn, {"found": 9}),
                ("ranks 2 nobody:0", NoOrder, {"at": 0}), ("ranks 2 g:0", NoOrder, {"at": 0}),
                ("ranks 2 b.2:0 b.2:0", NoOrder, {"at": 1}), ("ranks 2 b.2:9999", NoOrder, {"at": 0})):
            self.assertEqual(vars(refusal(self, error, desk.say, row)), values, row)
        self.assertEqual(answers(desk), before)
        # The day's rides stay, too.
        self.assertEqual(refusal(self, BadTable, desk.say, "seats late 1001").at, 2)

    def test_no_seat(self):
        desk = Desk(TEXT)
        desk.say("seats late 1000")
        desk.say("seats boat 0")
        self.assertEqual(refusal(self, NoSeat, desk.say, "more late 8").name, "late")
        self.assertEqual(refusal(self, NoSeat, desk.say, "less boat 8").name, "boat")
        self.assertEqual(refusal(self, NoTurn, desk.say, "more late 9").found, 9)
        self.assertEqual(desk.say("less late 8"), "0")

    def test_names_that_are_words_of_rows(self):
        desk = Desk("turns 4\nplace go 1\nplace now 1\nhome home\nride strike go 0 home 2 1\nride all now 1 home 3 1\n"
                    "group ranks go 0 1\ngroup by.1 now 0 1")
        self.assertEqual(desk.say("journey ranks 0"), "out ranks 0; ride strike")
        self.assertEqual(desk.say("strike strike"), "ok")
        self.assertEqual(desk.say("put put go 0 home 1 1"), "ok")
        self.assertEqual(desk.say("ranks 1 go.0:0"), "go.0:0")


class KeepingTest(unittest.TestCase):
    def test_asking_changes_nothing_and_is_answered_alike(self):
        desk = Desk(TEXT)
        for row in ("go 2", "strike boat", "go 4"):
            desk.say(row)
            self.assertEqual(answers(desk), answers(desk))

    def test_two_desks_of_one_text(self):
        one = Desk(TEXT)
        two = Desk(TEXT)
        before = answers(two)
        one.say("go 3")
        one.say("strike late")
        self.assertEqual(answers(two), before)
        two.say("go 3")
        two.say("strike late")
        self.assertEqual(answers(two), answers(one))

    def test_a_table_at_its_bounds(self):
        desk = Desk(show_table(full_table()))
        for row in ("go 12", "seats ride3 100", "later ride79 1", "strike ride6", "put p p3 30 north 31 7"):
            self.assertEqual(desk.say(row), "ok", row)
        rows = ["now", "since", "home", "counts", "turns", "standing", "table", "plan", "line 25", "by 50", "all", "more p 50",
                "less p 50", "ranks 40", "ranks 50 p3.12:0", "journey p3.12 0"]
        told = {row: desk.say(row) for row in rows}
        self.assertEqual((told["now"], told["since"]), ("12", "12"))
        self.assertEqual(len(told["counts"].split(" ")), 51)
        self.assertEqual(int(told["by 50"]) + int(told["home"]), int(told["counts"].split(" ")[50]))
        self.assertEqual(int(told["all"].split(" ")[1]) + int(told["counts"].split(" ")[50]), 300)
        self.assertEqual({sign for answer in told.values() for sign in answer} & {"\n", "%"}, set())


if __name__ == "__main__":
    unittest.main()
